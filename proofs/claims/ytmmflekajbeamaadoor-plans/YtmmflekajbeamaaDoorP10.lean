/-
  The document's own answer: how many bytes a character has (width).
-/
import Derived.Test.YtmmflekajbeamaaDoorP04
import Derived.Test.YtmmflekajbeamaaDoorP09
namespace Go.Proofs.YtmmflekajbeamaaDoor
open Go.RowKit

theorem bt_get (s : ByteArray) (i : Nat) (h : i < s.size) : (s[i]'h).toNat = bt s i := by
  have e : s.get! i = s.data[i]! := rfl
  unfold bt
  rw [e, getElem!_pos s.data i h]
  rfl

set_option maxRecDepth 100000 in
set_option maxHeartbeats 4000000 in
theorem width2 (s : ByteArray) (i : Nat) (w : World) (hi : i < s.size) (hs : s.size ≤ 2000) (l0 : 192 ≤ bt s i) (l1 : bt s i < 224) :
    Calls Tryd.prog 112 #[.string s, .int .i64 i] w fun e' w' => e' = .returned (.int .i64 (widN s i 2 (bt s i - 192) 128)) ∧ w' = w := by
  have hb := bt_get s i hi
  have h1' : ¬ (bt s i : Int) < 128 := by omega
  have q1 : (192 : Int) ≤ (bt s i : Int) := by omega
  have q1' : (bt s i : Int) < 224 := by omega
  by_cases hfit : s.size < i + 2
  · have hN : Hid (widN s i 2 (bt s i - 192) 128 = 0) := by unfold Hid widN; rw [if_pos hfit]
    have hfit' : (s.size : Int) < (i : Int) + 2 := by omega
    go_enter Tryd.func112, Tryd.ntmps112
    go_wp2
    go_ret
    rw [hN.out]
    exact ⟨rfl, rfl⟩
  · have HN : Hid (widN s i 2 (bt s i - 192) 128 = match widC s i 1 1 (bt s i - 192) with | none => 0 | some c => if c < 128 ∨ 1114111 < c ∨ (55296 ≤ c ∧ c < 57344) then 0 else 2) := by unfold Hid widN; rw [if_neg hfit]; rfl
    have hfit' : ¬ (s.size : Int) < (i : Int) + 2 := by omega
    have hc0 : (bt s i : Int) - 192 = ((bt s i - 192 : Nat) : Int) := by omega
    have hc1 : bt s i - 192 < 32 := by omega
    go_enter Tryd.func112, Tryd.ntmps112
    go_wp2
    generalize hce : bt s i - 192 = c0 at *
    have HCe := hide hce
    clear hc0 hce
    go_loop [5, 8] (fun c j => ∃ (jj cc : Nat), 1 ≤ jj ∧ jj ≤ 2 ∧ j = .int .i64 jj ∧ c = .int .i64 cc ∧ (cc < 32 ∨ (2 ≤ jj ∧ cc < 2112) ∨ (3 ≤ jj ∧ cc < 135232) ∨ (4 ≤ jj ∧ cc < 8654912)) ∧ Hid (widC s i (2 - jj) jj cc = widC s i 1 1 c0)) (fun _ j => 2 - (intOf j).toNat)
    case atStart => exact ⟨1, c0, Nat.le_refl _, by decide, rfl, rfl, .inl hc1, rfl⟩
    case round =>
      obtain ⟨jj, cc, hj1, hj2, rfl, rfl, hcb, HG⟩ := hrel
      have hcc : cc < 8654912 := by omega
      have hcc' : (cc : Int) < 8654912 := by omega
      have HCb := hide hcb
      clear hcb
      by_cases hlt : jj < 2
      · have hlt' : (jj : Int) < 2 := by omega
        have hij : i + jj < s.size := by omega
        have hd := bt_get s (i + jj) hij
        have hij' : (i : Int) + (jj : Int) < (s.size : Int) := by omega
        have hto : ((i : Int) + (jj : Int)).toNat = i + jj := by omega
        have hstep : widC s i (2 - jj) jj cc = if bt s (i + jj) < 128 ∨ 192 ≤ bt s (i + jj) then none else widC s i (2 - (jj + 1)) (jj + 1) (cc * 64 + bt s (i + jj) - 128) := by
          rw [show 2 - jj = (2 - (jj + 1)) + 1 by omega, widC]
        have hdl := bt_lt s (i + jj)
        have HSt := hide hstep
        clear hstep
        by_cases hbad : bt s (i + jj) < 128 ∨ 192 ≤ bt s (i + jj)
        · have HZ : Hid (widN s i 2 c0 128 = 0) := by
            unfold Hid
            rw [HN.out, ← HG.out, HSt.out, if_pos hbad]
          by_cases hb1 : bt s (i + jj) < 128
          · have hb1' : (bt s (i + jj) : Int) < 128 := by omega
            go_wp2
            go_ret
            rw [HCe.out, HZ.out]
            exact ⟨rfl, rfl⟩
          · have hb1' : ¬ (bt s (i + jj) : Int) < 128 := by omega
            have hb2' : (192 : Int) ≤ (bt s (i + jj) : Int) := by omega
            go_wp2
            go_ret
            rw [HCe.out, HZ.out]
            exact ⟨rfl, rfl⟩
        · have hb1' : ¬ (bt s (i + jj) : Int) < 128 := by omega
          have hb2' : ¬ (192 : Int) ≤ (bt s (i + jj) : Int) := by omega
          have HG' : Hid (widC s i (2 - (jj + 1)) (jj + 1) (cc * 64 + bt s (i + jj) - 128) = widC s i 1 1 c0) := by
            unfold Hid
            rw [← HG.out, HSt.out, if_neg hbad]
          go_wp2
          go_round
          case rel =>
            have := HCb.out
            refine ⟨jj + 1, cc * 64 + bt s (i + jj) - 128, by omega, by omega, by go_num, ?_, by omega, HG'⟩
            congr 1
            omega
          case measure => simp [intOf]; omega
      · have hjn : jj = 2 := by omega
        subst hjn
        have hgo : widC s i 1 1 c0 = some cc := by rw [← HG.out, Nat.sub_self]; rfl
        have HZ : Hid (widN s i 2 c0 128 = if cc < 128 ∨ 1114111 < cc ∨ (55296 ≤ cc ∧ cc < 57344) then 0 else 2) := by unfold Hid; rw [HN.out, hgo]
        clear hgo HN HG HCb
        by_cases k1 : cc < 128
        · have k1' : (cc : Int) < 128 := by omega
          go_wp2
          go_ret
          rw [HCe.out, HZ.out, if_pos (.inl k1)]
          exact ⟨rfl, rfl⟩
        · have k1' : ¬ (cc : Int) < 128 := by omega
          by_cases k2 : 1114111 < cc
          · have k2' : (1114111 : Int) < (cc : Int) := by omega
            go_wp2
            go_ret
            rw [HCe.out, HZ.out, if_pos (.inr (.inl k2))]
            exact ⟨rfl, rfl⟩
          · have k2' : ¬ (1114111 : Int) < (cc : Int) := by omega
            by_cases k3 : 55296 ≤ cc
            · have k3' : (55296 : Int) ≤ (cc : Int) := by omega
              by_cases k4 : cc < 57344
              · have k4' : (cc : Int) < 57344 := by omega
                go_wp2
                go_ret
                rw [HCe.out, HZ.out, if_pos (.inr (.inr ⟨k3, k4⟩))]
                exact ⟨rfl, rfl⟩
              · have k4' : ¬ (cc : Int) < 57344 := by omega
                go_wp2
                go_ret
                rw [HCe.out, HZ.out, if_neg (by omega)]
                exact ⟨rfl, rfl⟩
            · have k3' : ¬ (55296 : Int) ≤ (cc : Int) := by omega
              go_wp2
              go_ret
              rw [HCe.out, HZ.out, if_neg (by omega)]
              exact ⟨rfl, rfl⟩

set_option maxRecDepth 100000 in
set_option maxHeartbeats 4000000 in
theorem width3 (s : ByteArray) (i : Nat) (w : World) (hi : i < s.size) (hs : s.size ≤ 2000) (l0 : 224 ≤ bt s i) (l1 : bt s i < 240) :
    Calls Tryd.prog 112 #[.string s, .int .i64 i] w fun e' w' => e' = .returned (.int .i64 (widN s i 3 (bt s i - 224) 2048)) ∧ w' = w := by
  have hb := bt_get s i hi
  have h1' : ¬ (bt s i : Int) < 128 := by omega
  have q1 : (192 : Int) ≤ (bt s i : Int) := by omega
  have q1' : ¬ (bt s i : Int) < 224 := by omega
  have q2 : (224 : Int) ≤ (bt s i : Int) := by omega
  have q2' : (bt s i : Int) < 240 := by omega
  by_cases hfit : s.size < i + 3
  · have hN : Hid (widN s i 3 (bt s i - 224) 2048 = 0) := by unfold Hid widN; rw [if_pos hfit]
    have hfit' : (s.size : Int) < (i : Int) + 3 := by omega
    go_enter Tryd.func112, Tryd.ntmps112
    go_wp2
    go_ret
    rw [hN.out]
    exact ⟨rfl, rfl⟩
  · have HN : Hid (widN s i 3 (bt s i - 224) 2048 = match widC s i 2 1 (bt s i - 224) with | none => 0 | some c => if c < 2048 ∨ 1114111 < c ∨ (55296 ≤ c ∧ c < 57344) then 0 else 3) := by unfold Hid widN; rw [if_neg hfit]; rfl
    have hfit' : ¬ (s.size : Int) < (i : Int) + 3 := by omega
    have hc0 : (bt s i : Int) - 224 = ((bt s i - 224 : Nat) : Int) := by omega
    have hc1 : bt s i - 224 < 32 := by omega
    go_enter Tryd.func112, Tryd.ntmps112
    go_wp2
    generalize hce : bt s i - 224 = c0 at *
    have HCe := hide hce
    clear hc0 hce
    go_loop [5, 8] (fun c j => ∃ (jj cc : Nat), 1 ≤ jj ∧ jj ≤ 3 ∧ j = .int .i64 jj ∧ c = .int .i64 cc ∧ (cc < 32 ∨ (2 ≤ jj ∧ cc < 2112) ∨ (3 ≤ jj ∧ cc < 135232) ∨ (4 ≤ jj ∧ cc < 8654912)) ∧ Hid (widC s i (3 - jj) jj cc = widC s i 2 1 c0)) (fun _ j => 3 - (intOf j).toNat)
    case atStart => exact ⟨1, c0, Nat.le_refl _, by decide, rfl, rfl, .inl hc1, rfl⟩
    case round =>
      obtain ⟨jj, cc, hj1, hj2, rfl, rfl, hcb, HG⟩ := hrel
      have hcc : cc < 8654912 := by omega
      have hcc' : (cc : Int) < 8654912 := by omega
      have HCb := hide hcb
      clear hcb
      by_cases hlt : jj < 3
      · have hlt' : (jj : Int) < 3 := by omega
        have hij : i + jj < s.size := by omega
        have hd := bt_get s (i + jj) hij
        have hij' : (i : Int) + (jj : Int) < (s.size : Int) := by omega
        have hto : ((i : Int) + (jj : Int)).toNat = i + jj := by omega
        have hstep : widC s i (3 - jj) jj cc = if bt s (i + jj) < 128 ∨ 192 ≤ bt s (i + jj) then none else widC s i (3 - (jj + 1)) (jj + 1) (cc * 64 + bt s (i + jj) - 128) := by
          rw [show 3 - jj = (3 - (jj + 1)) + 1 by omega, widC]
        have hdl := bt_lt s (i + jj)
        have HSt := hide hstep
        clear hstep
        by_cases hbad : bt s (i + jj) < 128 ∨ 192 ≤ bt s (i + jj)
        · have HZ : Hid (widN s i 3 c0 2048 = 0) := by
            unfold Hid
            rw [HN.out, ← HG.out, HSt.out, if_pos hbad]
          by_cases hb1 : bt s (i + jj) < 128
          · have hb1' : (bt s (i + jj) : Int) < 128 := by omega
            go_wp2
            go_ret
            rw [HCe.out, HZ.out]
            exact ⟨rfl, rfl⟩
          · have hb1' : ¬ (bt s (i + jj) : Int) < 128 := by omega
            have hb2' : (192 : Int) ≤ (bt s (i + jj) : Int) := by omega
            go_wp2
            go_ret
            rw [HCe.out, HZ.out]
            exact ⟨rfl, rfl⟩
        · have hb1' : ¬ (bt s (i + jj) : Int) < 128 := by omega
          have hb2' : ¬ (192 : Int) ≤ (bt s (i + jj) : Int) := by omega
          have HG' : Hid (widC s i (3 - (jj + 1)) (jj + 1) (cc * 64 + bt s (i + jj) - 128) = widC s i 2 1 c0) := by
            unfold Hid
            rw [← HG.out, HSt.out, if_neg hbad]
          go_wp2
          go_round
          case rel =>
            have := HCb.out
            refine ⟨jj + 1, cc * 64 + bt s (i + jj) - 128, by omega, by omega, by go_num, ?_, by omega, HG'⟩
            congr 1
            omega
          case measure => simp [intOf]; omega
      · have hjn : jj = 3 := by omega
        subst hjn
        have hgo : widC s i 2 1 c0 = some cc := by rw [← HG.out, Nat.sub_self]; rfl
        have HZ : Hid (widN s i 3 c0 2048 = if cc < 2048 ∨ 1114111 < cc ∨ (55296 ≤ cc ∧ cc < 57344) then 0 else 3) := by unfold Hid; rw [HN.out, hgo]
        clear hgo HN HG HCb
        by_cases k1 : cc < 2048
        · have k1' : (cc : Int) < 2048 := by omega
          go_wp2
          go_ret
          rw [HCe.out, HZ.out, if_pos (.inl k1)]
          exact ⟨rfl, rfl⟩
        · have k1' : ¬ (cc : Int) < 2048 := by omega
          by_cases k2 : 1114111 < cc
          · have k2' : (1114111 : Int) < (cc : Int) := by omega
            go_wp2
            go_ret
            rw [HCe.out, HZ.out, if_pos (.inr (.inl k2))]
            exact ⟨rfl, rfl⟩
          · have k2' : ¬ (1114111 : Int) < (cc : Int) := by omega
            by_cases k3 : 55296 ≤ cc
            · have k3' : (55296 : Int) ≤ (cc : Int) := by omega
              by_cases k4 : cc < 57344
              · have k4' : (cc : Int) < 57344 := by omega
                go_wp2
                go_ret
                rw [HCe.out, HZ.out, if_pos (.inr (.inr ⟨k3, k4⟩))]
                exact ⟨rfl, rfl⟩
              · have k4' : ¬ (cc : Int) < 57344 := by omega
                go_wp2
                go_ret
                rw [HCe.out, HZ.out, if_neg (by omega)]
                exact ⟨rfl, rfl⟩
            · have k3' : ¬ (55296 : Int) ≤ (cc : Int) := by omega
              go_wp2
              go_ret
              rw [HCe.out, HZ.out, if_neg (by omega)]
              exact ⟨rfl, rfl⟩

set_option maxRecDepth 100000 in
set_option maxHeartbeats 4000000 in
theorem width4 (s : ByteArray) (i : Nat) (w : World) (hi : i < s.size) (hs : s.size ≤ 2000) (l0 : 240 ≤ bt s i) (l1 : bt s i < 248) :
    Calls Tryd.prog 112 #[.string s, .int .i64 i] w fun e' w' => e' = .returned (.int .i64 (widN s i 4 (bt s i - 240) 65536)) ∧ w' = w := by
  have hb := bt_get s i hi
  have h1' : ¬ (bt s i : Int) < 128 := by omega
  have q1 : (192 : Int) ≤ (bt s i : Int) := by omega
  have q1' : ¬ (bt s i : Int) < 224 := by omega
  have q2 : (224 : Int) ≤ (bt s i : Int) := by omega
  have q2' : ¬ (bt s i : Int) < 240 := by omega
  have q3 : (240 : Int) ≤ (bt s i : Int) := by omega
  have q3' : (bt s i : Int) < 248 := by omega
  by_cases hfit : s.size < i + 4
  · have hN : Hid (widN s i 4 (bt s i - 240) 65536 = 0) := by unfold Hid widN; rw [if_pos hfit]
    have hfit' : (s.size : Int) < (i : Int) + 4 := by omega
    go_enter Tryd.func112, Tryd.ntmps112
    go_wp2
    go_ret
    rw [hN.out]
    exact ⟨rfl, rfl⟩
  · have HN : Hid (widN s i 4 (bt s i - 240) 65536 = match widC s i 3 1 (bt s i - 240) with | none => 0 | some c => if c < 65536 ∨ 1114111 < c ∨ (55296 ≤ c ∧ c < 57344) then 0 else 4) := by unfold Hid widN; rw [if_neg hfit]; rfl
    have hfit' : ¬ (s.size : Int) < (i : Int) + 4 := by omega
    have hc0 : (bt s i : Int) - 240 = ((bt s i - 240 : Nat) : Int) := by omega
    have hc1 : bt s i - 240 < 32 := by omega
    go_enter Tryd.func112, Tryd.ntmps112
    go_wp2
    generalize hce : bt s i - 240 = c0 at *
    have HCe := hide hce
    clear hc0 hce
    go_loop [5, 8] (fun c j => ∃ (jj cc : Nat), 1 ≤ jj ∧ jj ≤ 4 ∧ j = .int .i64 jj ∧ c = .int .i64 cc ∧ (cc < 32 ∨ (2 ≤ jj ∧ cc < 2112) ∨ (3 ≤ jj ∧ cc < 135232) ∨ (4 ≤ jj ∧ cc < 8654912)) ∧ Hid (widC s i (4 - jj) jj cc = widC s i 3 1 c0)) (fun _ j => 4 - (intOf j).toNat)
    case atStart => exact ⟨1, c0, Nat.le_refl _, by decide, rfl, rfl, .inl hc1, rfl⟩
    case round =>
      obtain ⟨jj, cc, hj1, hj2, rfl, rfl, hcb, HG⟩ := hrel
      have hcc : cc < 8654912 := by omega
      have hcc' : (cc : Int) < 8654912 := by omega
      have HCb := hide hcb
      clear hcb
      by_cases hlt : jj < 4
      · have hlt' : (jj : Int) < 4 := by omega
        have hij : i + jj < s.size := by omega
        have hd := bt_get s (i + jj) hij
        have hij' : (i : Int) + (jj : Int) < (s.size : Int) := by omega
        have hto : ((i : Int) + (jj : Int)).toNat = i + jj := by omega
        have hstep : widC s i (4 - jj) jj cc = if bt s (i + jj) < 128 ∨ 192 ≤ bt s (i + jj) then none else widC s i (4 - (jj + 1)) (jj + 1) (cc * 64 + bt s (i + jj) - 128) := by
          rw [show 4 - jj = (4 - (jj + 1)) + 1 by omega, widC]
        have hdl := bt_lt s (i + jj)
        have HSt := hide hstep
        clear hstep
        by_cases hbad : bt s (i + jj) < 128 ∨ 192 ≤ bt s (i + jj)
        · have HZ : Hid (widN s i 4 c0 65536 = 0) := by
            unfold Hid
            rw [HN.out, ← HG.out, HSt.out, if_pos hbad]
          by_cases hb1 : bt s (i + jj) < 128
          · have hb1' : (bt s (i + jj) : Int) < 128 := by omega
            go_wp2
            go_ret
            rw [HCe.out, HZ.out]
            exact ⟨rfl, rfl⟩
          · have hb1' : ¬ (bt s (i + jj) : Int) < 128 := by omega
            have hb2' : (192 : Int) ≤ (bt s (i + jj) : Int) := by omega
            go_wp2
            go_ret
            rw [HCe.out, HZ.out]
            exact ⟨rfl, rfl⟩
        · have hb1' : ¬ (bt s (i + jj) : Int) < 128 := by omega
          have hb2' : ¬ (192 : Int) ≤ (bt s (i + jj) : Int) := by omega
          have HG' : Hid (widC s i (4 - (jj + 1)) (jj + 1) (cc * 64 + bt s (i + jj) - 128) = widC s i 3 1 c0) := by
            unfold Hid
            rw [← HG.out, HSt.out, if_neg hbad]
          go_wp2
          go_round
          case rel =>
            have := HCb.out
            refine ⟨jj + 1, cc * 64 + bt s (i + jj) - 128, by omega, by omega, by go_num, ?_, by omega, HG'⟩
            congr 1
            omega
          case measure => simp [intOf]; omega
      · have hjn : jj = 4 := by omega
        subst hjn
        have hgo : widC s i 3 1 c0 = some cc := by rw [← HG.out, Nat.sub_self]; rfl
        have HZ : Hid (widN s i 4 c0 65536 = if cc < 65536 ∨ 1114111 < cc ∨ (55296 ≤ cc ∧ cc < 57344) then 0 else 4) := by unfold Hid; rw [HN.out, hgo]
        clear hgo HN HG HCb
        by_cases k1 : cc < 65536
        · have k1' : (cc : Int) < 65536 := by omega
          go_wp2
          go_ret
          rw [HCe.out, HZ.out, if_pos (.inl k1)]
          exact ⟨rfl, rfl⟩
        · have k1' : ¬ (cc : Int) < 65536 := by omega
          by_cases k2 : 1114111 < cc
          · have k2' : (1114111 : Int) < (cc : Int) := by omega
            go_wp2
            go_ret
            rw [HCe.out, HZ.out, if_pos (.inr (.inl k2))]
            exact ⟨rfl, rfl⟩
          · have k2' : ¬ (1114111 : Int) < (cc : Int) := by omega
            by_cases k3 : 55296 ≤ cc
            · have k3' : (55296 : Int) ≤ (cc : Int) := by omega
              by_cases k4 : cc < 57344
              · have k4' : (cc : Int) < 57344 := by omega
                go_wp2
                go_ret
                rw [HCe.out, HZ.out, if_pos (.inr (.inr ⟨k3, k4⟩))]
                exact ⟨rfl, rfl⟩
              · have k4' : ¬ (cc : Int) < 57344 := by omega
                go_wp2
                go_ret
                rw [HCe.out, HZ.out, if_neg (by omega)]
                exact ⟨rfl, rfl⟩
            · have k3' : ¬ (55296 : Int) ≤ (cc : Int) := by omega
              go_wp2
              go_ret
              rw [HCe.out, HZ.out, if_neg (by omega)]
              exact ⟨rfl, rfl⟩

set_option maxRecDepth 100000 in
set_option maxHeartbeats 4000000 in
/-- How many bytes the character at i has. -/
theorem width_any (s : ByteArray) (i : Nat) (w : World) (hi : i < s.size) (hs : s.size ≤ 2000) :
    Calls Tryd.prog 112 #[.string s, .int .i64 i] w fun e' w' => e' = .returned (.int .i64 (wid s i)) ∧ w' = w := by
  by_cases h1 : bt s i < 128
  · have hw : wid s i = 1 := by unfold wid; rw [if_pos h1]
    have hb := bt_get s i hi
    have h1' : (bt s i : Int) < 128 := by omega
    rw [hw]
    go_enter Tryd.func112, Tryd.ntmps112
    go_wp2
    go_ret
    exact ⟨rfl, rfl⟩
  · by_cases h2 : 192 ≤ bt s i ∧ bt s i < 224
    · have hw : wid s i = widN s i 2 (bt s i - 192) 128 := by unfold wid; rw [if_neg h1, if_pos h2]
      rw [hw]
      exact width2 s i w hi hs h2.1 h2.2
    · by_cases h3 : 224 ≤ bt s i ∧ bt s i < 240
      · have hw : wid s i = widN s i 3 (bt s i - 224) 2048 := by unfold wid; rw [if_neg h1, if_neg h2, if_pos h3]
        rw [hw]
        exact width3 s i w hi hs h3.1 h3.2
      · by_cases h4 : 240 ≤ bt s i ∧ bt s i < 248
        · have hw : wid s i = widN s i 4 (bt s i - 240) 65536 := by unfold wid; rw [if_neg h1, if_neg h2, if_neg h3, if_pos h4]
          rw [hw]
          exact width4 s i w hi hs h4.1 h4.2
        · have hw : wid s i = 0 := by unfold wid; rw [if_neg h1, if_neg h2, if_neg h3, if_neg h4]
          have hb := bt_get s i hi
          have hlt := bt_lt s i
          have h1' : ¬ (bt s i : Int) < 128 := by omega
          rw [hw]
          by_cases h5 : bt s i < 192
          · have q1 : ¬ (192 : Int) ≤ (bt s i : Int) := by omega
            have q2 : ¬ (224 : Int) ≤ (bt s i : Int) := by omega
            have q3 : ¬ (240 : Int) ≤ (bt s i : Int) := by omega
            go_enter Tryd.func112, Tryd.ntmps112
            go_wp2
            go_ret
            exact ⟨rfl, rfl⟩
          · have q1 : (192 : Int) ≤ (bt s i : Int) := by omega
            have q1' : ¬ (bt s i : Int) < 224 := by omega
            have q2 : (224 : Int) ≤ (bt s i : Int) := by omega
            have q2' : ¬ (bt s i : Int) < 240 := by omega
            have q3 : (240 : Int) ≤ (bt s i : Int) := by omega
            have q3' : ¬ (bt s i : Int) < 248 := by omega
            go_enter Tryd.func112, Tryd.ntmps112
            go_wp2
            go_ret
            exact ⟨rfl, rfl⟩
end Go.Proofs.YtmmflekajbeamaaDoor
