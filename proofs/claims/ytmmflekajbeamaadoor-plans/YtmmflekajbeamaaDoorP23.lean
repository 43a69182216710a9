/-
  Plans: the puts of a plan's text, by the document's answer (cribref.Puts).
  Plans: the words of a block, as the program holds them: whether a word is plain, how many are, whether one more may come (IsPlain, plainLen, mayGrow, add).
-/
import Derived.Test.YtmmflekajbeamaaDoorP15
import Derived.BigRegion
import Derived.Deep.Cut
import Derived.Deep.CutRange
import Derived.Test.YtmmflekajbeamaaDoorP21
namespace Go.Proofs.YtmmflekajbeamaaDoor
open Go.RowKit

def bd1 (c0 c1 c2 c3 : Int) : Bool := decide (c0 < 1 ∨ 7 < c0 ∨ 16 ≤ c1 ∨ 16 ≤ c2 ∨ 16 ≤ c3)
def bd2 (c0 c2 c3 : Int) : Bool := decide (c0 = 1 ∧ (c2 ≠ 0 ∨ c3 ≠ 0))
def bd3 (c0 k : Int) : Bool := decide (2 ≤ c0 ∧ c0 ≤ 5 ∧ k ≠ 0)
def bd4 (c0 c3 k : Int) : Bool := decide (c0 = 6 ∧ (c3 ≠ 0 ∨ 4095 < k))
def bd5 (c0 c3 k : Int) : Bool := decide (c0 = 7 ∧ (c3 ≠ 0 ∨ k ≠ 0))
theorem put_cases (x d a b k : Int) :
    (okPutI x d a b k = true ∧ d < 16 ∧ a < 16 ∧ b < 16 ∧ ((x = 1 ∧ a = 0 ∧ b = 0) ∨ (2 ≤ x ∧ x ≤ 5 ∧ k = 0) ∨ (x = 6 ∧ b = 0 ∧ k ≤ 4095) ∨ (x = 7 ∧ b = 0 ∧ k = 0))) ∨
    (okPutI x d a b k = false ∧ (x < 1 ∨ 7 < x ∨ 16 ≤ d ∨ 16 ≤ a ∨ 16 ≤ b ∨ (x = 1 ∧ (a ≠ 0 ∨ b ≠ 0)) ∨ (2 ≤ x ∧ x ≤ 5 ∧ k ≠ 0) ∨ (x = 6 ∧ (b ≠ 0 ∨ 4095 < k)) ∨ (x = 7 ∧ (b ≠ 0 ∨ k ≠ 0)))) := by
  unfold okPutI
  by_cases h : (d < 16 ∧ a < 16 ∧ b < 16 ∧ ((x = 1 ∧ a = 0 ∧ b = 0) ∨ (2 ≤ x ∧ x ≤ 5 ∧ k = 0) ∨ (x = 6 ∧ b = 0 ∧ k ≤ 4095) ∨ (x = 7 ∧ b = 0 ∧ k = 0)))
  · left
    rw [decide_eq_true h]
    exact ⟨rfl, h⟩
  · right
    rw [decide_eq_false h]
    refine ⟨rfl, ?_⟩
    by_cases g1 : x < 1
    · exact .inl g1
    right
    by_cases g7 : 7 < x
    · exact .inl g7
    right
    by_cases gd : 16 ≤ d
    · exact .inl gd
    right
    by_cases ga : 16 ≤ a
    · exact .inl ga
    right
    by_cases gb : 16 ≤ b
    · exact .inl gb
    right
    have hx : x = 1 ∨ (2 ≤ x ∧ x ≤ 5) ∨ x = 6 ∨ x = 7 := by omega
    rcases hx with hx | hx | hx | hx
    · exact .inl ⟨hx, by
        by_cases a0 : a = 0
        · exact .inr fun e => h ⟨by omega, by omega, by omega, .inl ⟨hx, a0, e⟩⟩
        · exact .inl a0⟩
    · exact .inr (.inl ⟨hx.1, hx.2, fun e => h ⟨by omega, by omega, by omega, .inr (.inl ⟨hx.1, hx.2, e⟩)⟩⟩)
    · exact .inr (.inr (.inl ⟨hx, by
        by_cases b0 : b = 0
        · exact .inr (Int.not_le.1 fun e => h ⟨by omega, by omega, by omega, .inr (.inr (.inl ⟨hx, b0, e⟩))⟩)
        · exact .inl b0⟩))
    · exact .inr (.inr (.inr ⟨hx, by
        by_cases b0 : b = 0
        · exact .inr fun e => h ⟨by omega, by omega, by omega, .inr (.inr (.inr ⟨hx, b0, e⟩))⟩
        · exact .inl b0⟩))
theorem bd_ok (c0 c1 c2 c3 k : Int) : ((((bd1 c0 c1 c2 c3 || bd2 c0 c2 c3) || bd3 c0 k) || bd4 c0 c3 k) || bd5 c0 c3 k) = !okPutI c0 c1 c2 c3 k := by
  have h := put_cases c0 c1 c2 c3 k
  rcases h with ⟨h, hc⟩ | ⟨h, hc⟩
  · rw [h]
    simp only [bd1, bd2, bd3, bd4, bd5, Bool.or_eq_false_iff, Bool.not_true, decide_eq_false_iff_not]
    refine ⟨⟨⟨⟨?_, ?_⟩, ?_⟩, ?_⟩, ?_⟩ <;> omega
  · rw [h]
    simp only [bd1, bd2, bd3, bd4, bd5, Bool.or_eq_true, Bool.not_false, decide_eq_true_eq]
    omega

set_option maxRecDepth 100000 in
set_option maxHeartbeats 2000000 in
theorem refPuts_any (s : ByteArray) (w : World) (hs : s.size ≤ maxLen) :
    Calls Tryd.prog 49 #[.string s] w (PutsPost s w) := by
  obtain ⟨inf, hinf, hz, hsz1, hby⟩ := infoPut
  have HInf := hide hinf; have HZ := hide hz; have HSz := hide hsz1; have HBy := hide hby
  clear hinf hz hsz1 hby
  unfold maxLen at hs
  by_cases h80 : s.size ≤ 80
  · have h80' : decide ((80 : Int) < (s.size : Int)) = false := by simp; omega
    by_cases h8 : s.size % 8 = 0
    · have h8' : (s.size : Int) % 8 = 0 := by omega
      go_enter Tryd.func49, Tryd.ntmps49
      go_wp2_with fail
      go_loopw [4, 5] (fun v i wr => ∃ k j : Nat, 8 * k ≤ s.size ∧ j = 8 * k ∧ i = .int .i64 j ∧ wr.ownsRow w.heap.size 59 5 v k (putCs (putL s k)) ∧ Below w.heap.size w wr ∧ Hid (∀ q, q < k → okPut (putAt s (8 * q)))) (fun _ i _ => s.size - (intOf i).toNat)
      case atStart => exact ⟨0, 0, Nat.zero_le _, rfl, rfl, World.ownsRow_nil _ _ _ _, Below.refl _ _, fun q hq => by omega⟩
      case round =>
        obtain ⟨k, j, hk, hj, rfl, hown, hbl, HG⟩ := hrel
        obtain ⟨va, vc, hv⟩ := owns_len hown
        subst hv
        have HO := hide hown; have HBl := hide hbl; have HJ := hide hj
        have hwz := hbl.size
        by_cases hlt : j < s.size
        · have hlt' : (j : Int) < (s.size : Int) := by omega
          have hj8 : j + 8 ≤ s.size := by omega
          have hkk : k ≤ 10 := by omega
          have hr := fun w' => value_any s (j + 4) 4 w' (by decide) (by omega) (by omega)
          have e4 : ((j + 4 : Nat) : Int) = (j : Int) + 4 := by omega
          rw [e4] at hr
          have HR := hide hr
          clear hr hown hbl hj h8 h8' hk e4
          have HDec : Hid (okPutI (bt s j) (bt s (j + 1)) (bt s (j + 2)) (bt s (j + 3)) (beN s (j + 4) 4) = @decide (okPut (putAt s j)) (okDec _)) := okPutI_eq (putAt s j)
          have v1 : IntKind.i64.wrap ((j : Int) + 1) = ((j + 1 : Nat) : Int) := IntWalk.i64_in _ ⟨by omega, by omega⟩
          have v2 : IntKind.i64.wrap ((j : Int) + 2) = ((j + 2 : Nat) : Int) := IntWalk.i64_in _ ⟨by omega, by omega⟩
          have v3 : IntKind.i64.wrap ((j : Int) + 3) = ((j + 3 : Nat) : Int) := IntWalk.i64_in _ ⟨by omega, by omega⟩
          have l1 : j + 1 < s.size := by omega
          have l2 : j + 2 < s.size := by omega
          have l3 : j + 3 < s.size := by omega
          have HJ2 : Hid (j + 8 ≤ s.size) := hj8
          clear hj8
          have HS : Hid (putCs (putL s (k + 1)) = putCs (putL s k) ++ [.int .i64 (bt s j), .int .i64 (bt s (j + 1)), .int .i64 (bt s (j + 2)), .int .i64 (bt s (j + 3)), .int .i64 (beN s (j + 4) 4)]) := by
            unfold Hid
            rw [putL_succ, putCs_snoc, ← HJ.out]
            rfl
          generalize (beN s (j + 4) 4 : Int) = k4 at *
          generalize j + 1 = j1 at *
          generalize j + 2 = j2 at *
          generalize j + 3 = j3 at *
          have g0 := bt_get s j hlt; have g1 := bt_get s j1 l1; have g2 := bt_get s j2 l2; have g3 := bt_get s j3 l3
          have q1 : (j1 : Int) < (s.size : Int) := by omega
          have q2 : (j2 : Int) < (s.size : Int) := by omega
          have q3 : (j3 : Int) < (s.size : Int) := by omega
          have b0 := bt_lt s j; have b1 := bt_lt s j1; have b2 := bt_lt s j2; have b3 := bt_lt s j3
          have z0 : IntKind.i64.wrap (bt s j : Int) = bt s j := IntWalk.i64_in _ ⟨by omega, by omega⟩
          have z1 : IntKind.i64.wrap (bt s j1 : Int) = bt s j1 := IntWalk.i64_in _ ⟨by omega, by omega⟩
          have z2 : IntKind.i64.wrap (bt s j2 : Int) = bt s j2 := IntWalk.i64_in _ ⟨by omega, by omega⟩
          have z3 : IntKind.i64.wrap (bt s j3 : Int) = bt s j3 := IntWalk.i64_in _ ⟨by omega, by omega⟩
          go_wp2_with fail
          refine (unhide HR _).mono ?_
          rintro e w' ⟨rfl, hw⟩
          obtain rfl := hw.symm
          go_wp2_with fail
          refine held_tail 21 2 (fun _ => True) (by kernel_rfl) (by kernel_rfl) (fun d _ _ _ _ h => by cases d <;> exact h) trivial ?_
          simp only [List.take_succ_cons, List.take_zero, List.drop_succ_cons, List.drop_zero]
          iterate 21
            refine wpTake_step ?_ rfl ?_ ?_
            rotate_left
            · rintro w' d0
              go_simp
              rfl
            go_simp
          refine wpTake_nil ?_
          iterate 2
            refine wpTail_step rfl (fun K hK => ?_)
            go_simp
            refine hK _ _ trivial ?_
            clear hK K
          unfold wpTailS
          clear g0 g1 g2 g3 b0 b1 b2 b3 z0 z1 z2 z3 v1 v2 v3 l1 l2 l3 q1 q2 q3
          generalize (bt s j : Int) = c0 at *
          generalize (bt s j1 : Int) = c1 at *
          generalize (bt s j2 : Int) = c2 at *
          generalize (bt s j3 : Int) = c3 at *
          go_upto_region 9 with fail
          go_cut [8] from 18 to 140 (fun b wx => b = .bool (bd1 c0 c1 c2 c3) ∧ wx = (wr.alloc (.cells #[.int .i64 c0, .int .i64 c1, .int .i64 c2, .int .i64 c3, .int .i64 k4] 59)).drew)
          case first =>
            by_cases g1 : c0 < 1
            · go_wp2_with fail
              go_meet
              exact ⟨congrArg Value.bool (decide_eq_true (by omega)).symm, rfl⟩
            have h1 : decide (c0 < 1) = false := by simpa using g1
            by_cases g7 : 7 < c0
            · go_wp2_with fail
              go_meet
              exact ⟨congrArg Value.bool (decide_eq_true (by omega)).symm, rfl⟩
            have h7 : decide (7 < c0) = false := by simpa using g7
            by_cases gd : 16 ≤ c1
            · go_wp2_with fail
              go_meet
              exact ⟨congrArg Value.bool (decide_eq_true (by omega)).symm, rfl⟩
            have hd : decide (16 ≤ c1) = false := by simpa using gd
            by_cases ga : 16 ≤ c2
            · go_wp2_with fail
              go_meet
              exact ⟨congrArg Value.bool (decide_eq_true (by omega)).symm, rfl⟩
            have ha : decide (16 ≤ c2) = false := by simpa using ga
            by_cases gb : 16 ≤ c3
            · go_wp2_with fail
              go_meet
              exact ⟨congrArg Value.bool (decide_eq_true (by omega)).symm, rfl⟩
            have hb : decide (16 ≤ c3) = false := by simpa using gb
            go_wp2_with fail
            go_meet
            exact ⟨congrArg Value.bool (decide_eq_false (by omega)).symm, rfl⟩
          case rest =>
          obtain ⟨rfl, rfl⟩ := hcut
          generalize hE1 : bd1 c0 c1 c2 c3 = e1 at *
          have HE1 := hide hE1
          clear hE1
          go_upto_region 10 with fail
          go_cut [8] from 18 to 140 (fun b wx => b = .bool (e1 || bd2 c0 c2 c3) ∧ wx = (wr.alloc (.cells #[.int .i64 c0, .int .i64 c1, .int .i64 c2, .int .i64 c3, .int .i64 k4] 59)).drew)
          case first =>
            cases e1
            · by_cases g1 : c0 = 1
              · subst g1
                by_cases ga : c2 = 0
                · subst ga
                  by_cases gb : c3 = 0
                  · subst gb
                    go_wp2_with fail
                    go_meet
                    exact ⟨congrArg Value.bool (by decide), rfl⟩
                  · have gb' : (c3 == 0) = false := by simpa using gb
                    go_wp2_with fail
                    go_meet
                    exact ⟨congrArg Value.bool ((bne_iff_ne.2 gb).trans (decide_eq_true (by omega)).symm), rfl⟩
                · have ga' : (c2 == 0) = false := by simpa using ga
                  go_wp2_with fail
                  go_meet
                  exact ⟨congrArg Value.bool (decide_eq_true (by omega)).symm, rfl⟩
              · have g1' : (c0 == 1) = false := by simpa using g1
                go_wp2_with fail
                go_meet
                exact ⟨congrArg Value.bool (decide_eq_false (by omega)).symm, rfl⟩
            · go_wp2_with fail
              go_meet
              exact ⟨rfl, rfl⟩
          case rest =>
          obtain ⟨rfl, rfl⟩ := hcut
          generalize hE2 : (e1 || bd2 c0 c2 c3) = e2 at *
          have HE2 := hide hE2
          clear hE2
          go_upto_region 11 with fail
          go_cut [8] from 18 to 140 (fun b wx => b = .bool (e2 || bd3 c0 k4) ∧ wx = (wr.alloc (.cells #[.int .i64 c0, .int .i64 c1, .int .i64 c2, .int .i64 c3, .int .i64 k4] 59)).drew)
          case first =>
            cases e2
            · by_cases g2 : 2 ≤ c0
              · by_cases g5 : c0 ≤ 5
                · by_cases gk : k4 = 0
                  · subst gk
                    go_wp2_with fail
                    go_meet
                    exact ⟨congrArg Value.bool (decide_eq_false (by omega)).symm, rfl⟩
                  · have gk' : (k4 == 0) = false := by simpa using gk
                    go_wp2_with fail
                    go_meet
                    exact ⟨congrArg Value.bool ((bne_iff_ne.2 gk).trans (decide_eq_true (by omega)).symm), rfl⟩
                · have g5' : decide (c0 ≤ 5) = false := by simpa using g5
                  go_wp2_with fail
                  go_meet
                  exact ⟨congrArg Value.bool (decide_eq_false (by omega)).symm, rfl⟩
              · have g2' : decide (2 ≤ c0) = false := by simpa using g2
                go_wp2_with fail
                go_meet
                exact ⟨congrArg Value.bool (decide_eq_false (by omega)).symm, rfl⟩
            · go_wp2_with fail
              go_meet
              exact ⟨rfl, rfl⟩
          case rest =>
          obtain ⟨rfl, rfl⟩ := hcut
          generalize hE3 : (e2 || bd3 c0 k4) = e3 at *
          have HE3 := hide hE3
          clear hE3
          go_upto_region 12 with fail
          go_cut [8] from 18 to 140 (fun b wx => b = .bool (e3 || bd4 c0 c3 k4) ∧ wx = (wr.alloc (.cells #[.int .i64 c0, .int .i64 c1, .int .i64 c2, .int .i64 c3, .int .i64 k4] 59)).drew)
          case first =>
            cases e3
            · by_cases g6 : c0 = 6
              · subst g6
                by_cases gb : c3 = 0
                · subst gb
                  by_cases gk : 4095 < k4
                  · go_wp2_with fail
                    go_meet
                    exact ⟨congrArg Value.bool (decide_eq_true (by omega)).symm, rfl⟩
                  · have gk' : decide (4095 < k4) = false := by simpa using gk
                    go_wp2_with fail
                    go_meet
                    exact ⟨congrArg Value.bool (decide_eq_false (by omega)).symm, rfl⟩
                · have gb' : (c3 == 0) = false := by simpa using gb
                  go_wp2_with fail
                  go_meet
                  exact ⟨congrArg Value.bool (decide_eq_true (by omega)).symm, rfl⟩
              · have g6' : (c0 == 6) = false := by simpa using g6
                go_wp2_with fail
                go_meet
                exact ⟨congrArg Value.bool (decide_eq_false (by omega)).symm, rfl⟩
            · go_wp2_with fail
              go_meet
              exact ⟨rfl, rfl⟩
          case rest =>
          obtain ⟨rfl, rfl⟩ := hcut
          generalize hE4 : (e3 || bd4 c0 c3 k4) = e4 at *
          have HE4 := hide hE4
          clear hE4
          go_upto_region 13 with fail
          go_cut [8] from 18 to 140 (fun b wx => b = .bool (e4 || bd5 c0 c3 k4) ∧ wx = (wr.alloc (.cells #[.int .i64 c0, .int .i64 c1, .int .i64 c2, .int .i64 c3, .int .i64 k4] 59)).drew)
          case first =>
            cases e4
            · by_cases g7 : c0 = 7
              · subst g7
                by_cases gb : c3 = 0
                · subst gb
                  by_cases gk : k4 = 0
                  · subst gk
                    go_wp2_with fail
                    go_meet
                    exact ⟨congrArg Value.bool (by decide), rfl⟩
                  · have gk' : (k4 == 0) = false := by simpa using gk
                    go_wp2_with fail
                    go_meet
                    exact ⟨congrArg Value.bool ((bne_iff_ne.2 gk).trans (decide_eq_true (by omega)).symm), rfl⟩
                · have gb' : (c3 == 0) = false := by simpa using gb
                  go_wp2_with fail
                  go_meet
                  exact ⟨congrArg Value.bool (decide_eq_true (by omega)).symm, rfl⟩
              · have g7' : (c0 == 7) = false := by simpa using g7
                go_wp2_with fail
                go_meet
                exact ⟨congrArg Value.bool (decide_eq_false (by omega)).symm, rfl⟩
            · go_wp2_with fail
              go_meet
              exact ⟨rfl, rfl⟩
          case rest =>
          obtain ⟨rfl, rfl⟩ := hcut
          generalize hE5 : (e4 || bd5 c0 c3 k4) = e5 at *
          have HE5 : Hid (e5 = !okPutI c0 c1 c2 c3 k4) := by
            unfold Hid
            rw [← bd_ok, HE1.out, HE2.out, HE3.out, HE4.out, hE5]
          clear hE5 HE1 HE2 HE3 HE4
          by_cases hokp : okPut (putAt s j)
          · have he : e5 = false := by have h1 := HE5.out; have h2 := HDec.out; rw [@decide_eq_true _ (okDec _) hokp] at h2; rw [h1, h2]; rfl
            subst he
            have HK : Hid (∀ q, q < k + 1 → okPut (putAt s (8 * q))) := fun q hq => by
              by_cases hqk : q = k
              · subst hqk; rw [← HJ.out]; exact hokp
              · exact HG.out q (by omega)
            clear hokp HDec HE5
            go_wp2_with (at_builtin; refine wpList_append_lies _ rfl _ _ 61 rfl w.heap.size 59 inf _ 5 40 Tryd.underlying61 HInf.out HZ.out HSz.out HBy.out rfl (by decide) (.slice va k vc) k (putCs (putL s k)) rfl ((HO.out.alloc _).alloc _).drew ⟨wr.heap.size + 1, 0, none⟩ 1 1 [.int .i64 c0, .int .i64 c1, .int .i64 c2, .int .i64 c3, .int .i64 k4] rfl rfl (World.news_of_block (by have := _root_.Go.heap_alloc_new (wr.alloc (.cells #[.int .i64 c0, .int .i64 c1, .int .i64 c2, .int .i64 c3, .int .i64 k4] 59)) (.cells #[.int .i64 c0, .int .i64 c1, .int .i64 c2, .int .i64 c3, .int .i64 k4] 59); rw [size_alloc1] at this; exact this)) (fun u hu => by simp at hu; rcases hu with rfl | rfl | rfl | rfl | rfl <;> rfl) (by decide) (by unfold maxLen; omega) (by omega) (by show w.heap.size ≤ ((wr.alloc _).alloc _).heap.size; rw [size_alloc1, size_alloc1]; omega) (wr.heap.size + 1 + 1) (by show ((wr.alloc _).alloc _).heap.size = _; rw [size_alloc1, size_alloc1]) ?_; intro g2' cap2 w3 hown2 hgr2 hat2 hlt2; have HO3 := hide hown2; have HGr := hide hgr2; clear hown2 hgr2 hat2)
            refine ⟨⟨k + 1, j + 8, by have := HJ.out; have := HJ2.out; omega, by have := HJ.out; omega, by go_num, ?_, ?_, HK⟩, by simp [intOf]; have := HJ2.out; omega⟩
            · rw [HS.out]
              exact HO3.out
            · exact (((HBl.out.alloc hwz _).alloc (by rw [size_alloc1]; omega) _).drew).grown HGr.out (by show w.heap.size ≤ ((wr.alloc _).alloc _).heap.size; rw [size_alloc1, size_alloc1]; omega) (fun q hq => (row_lt HO.out q hq).1)
          · have he : e5 = true := by have h1 := HE5.out; have h2 := HDec.out; rw [@decide_eq_false _ (okDec _) hokp] at h2; rw [h1, h2]; rfl
            subst he
            have HN : Hid (¬ putsOK s) := fun h => hokp (by have := h.2.2 k (by have := HJ.out; have := HJ2.out; omega); rw [← HJ.out] at this; exact this)
            clear hokp HDec HE5 HS
            go_wp2_with fail
            go_ret2
            exact ⟨(HBl.out.alloc hwz _).drew, .inr ⟨HN.out, rfl⟩⟩
        · have hlt' : ¬ (j : Int) < (s.size : Int) := by omega
          have hkn : k = s.size / 8 := by omega
          have HOK : Hid (putsOK s) := ⟨h8, h80, fun q hq => HG.out q (by omega)⟩
          clear hown hbl hj hk
          go_wp2_with fail
          go_ret2
          rw [hkn] at HO
          exact ⟨HBl.out, .inl ⟨HOK.out, _, rfl, HO.out⟩⟩
    · have h8' : ((s.size : Int) % 8 == 0) = false := by simp; omega
      have HN : Hid (¬ putsOK s) := fun h => h8 h.1
      go_enter Tryd.func49, Tryd.ntmps49
      go_wp2_with fail
      go_ret2
      exact ⟨Below.refl _ _, .inr ⟨HN.out, rfl⟩⟩
  · have h80' : (80 : Int) < (s.size : Int) := by omega
    have HN : Hid (¬ putsOK s) := fun h => h80 h.2.1
    go_enter Tryd.func49, Tryd.ntmps49
    go_wp2_with fail
    go_ret2
    exact ⟨Below.refl _ _, .inr ⟨HN.out, rfl⟩⟩
end Go.Proofs.YtmmflekajbeamaaDoor

namespace Go.Proofs.YtmmflekajbeamaaDoor
open Go.RowKit

def fieldsV (v : Int) : Array Value := #[.int .i64 (fop v), .int .i64 (fa v), .int .i64 (fb v), .int .i64 (fc v), .int .i64 (fk v)]
theorem arB_pl {op a b c : Int} (h : op = 1 ∨ op = 6 ∨ arB op = true) : plB op a b c = knB op a b c := by
  unfold arB at h
  rw [decide_eq_true_eq] at h
  exact kn_pl op a b c (by omega) (by omega) (by omega) (by omega) (by omega)
theorem pl_no {op a b c : Int} (h1 : ¬ op = 1) (h6 : ¬ op = 6) (ha : arB op = false) : plB op a b c = false := by
  unfold arB at ha
  rw [decide_eq_false_iff_not] at ha
  unfold plB
  rw [if_neg h1, if_neg ha, if_neg h6]
set_option maxRecDepth 100000 in
set_option maxHeartbeats 1000000 in
theorem isPlain_any (v : Int) (w : World) (ht : Tab w) :
    Calls Tryd.prog 161 #[.agg (fieldsV v)] w fun e' w' => e' = .returned (.bool (plW v)) ∧ Below w.heap.size w w' := by
  have hf := fop_bd v
  unfold plW fieldsV
  have HA := hide (fun w' => isArith_any (fop v) w')
  have HI := hide (fun w' (hb : Below w.heap.size w w') => isIns_any (fop v) (fa v) (fb v) (fc v) (fk v) w' hf.1 (ht.below ht.pos hb))
  generalize fop v = op at *
  generalize fa v = a at *
  generalize fb v = b at *
  generalize fc v = c at *
  generalize fk v = k at *
  have hb1 := hide ((Below.refl w.heap.size w).alloc (Nat.le_refl _) (.cells #[.int .i64 op, .int .i64 a, .int .i64 b, .int .i64 c, .int .i64 k] 166))
  have hfin : ∀ w1, Below (w.alloc (.cells #[.int .i64 op, .int .i64 a, .int .i64 b, .int .i64 c, .int .i64 k] 166)).heap.size (w.alloc (.cells #[.int .i64 op, .int .i64 a, .int .i64 b, .int .i64 c, .int .i64 k] 166)) w1 → Below w.heap.size w w1 := fun w1 h => hb1.out.trans (h.mono (by rw [size_alloc1]; omega))
  have HFin := hide hfin
  clear hfin
  by_cases h1 : op = 1
  · subst h1
    have HE : Hid (plB 1 a b c = knB 1 a b c) := arB_pl (.inl rfl)
    go_enter Tryd.func161, Tryd.ntmps161
    go_wp2_with fail
    refine (unhide HI _ hb1.out).mono ?_
    rintro e w1 ⟨rfl, hb2⟩
    have HB2 := hide hb2
    clear hb2
    go_wp2_with fail
    go_ret
    exact ⟨ret_bool HE.out.symm, HFin.out _ HB2.out⟩
  · have h1' : (op == 1) = false := by simpa using h1
    by_cases h6 : op = 6
    · subst h6
      have HE : Hid (plB 6 a b c = knB 6 a b c) := arB_pl (.inr (.inl rfl))
      go_enter Tryd.func161, Tryd.ntmps161
      go_wp2_with fail
      refine (unhide HI _ hb1.out).mono ?_
      rintro e w1 ⟨rfl, hb2⟩
      have HB2 := hide hb2
      clear hb2
      go_wp2_with fail
      go_ret
      exact ⟨ret_bool HE.out.symm, HFin.out _ HB2.out⟩
    · have h6' : (op == 6) = false := by simpa using h6
      cases har : arB op
      · have HE : Hid (plB op a b c = false) := pl_no h1 h6 har
        rw [har] at HA
        clear har h1 h6
        go_enter Tryd.func161, Tryd.ntmps161
        go_wp2_with fail
        refine (unhide HA _).mono ?_
        rintro e w' ⟨rfl, hw⟩
        obtain rfl := hw.symm
        go_wp2_with fail
        go_ret
        exact ⟨ret_bool HE.out.symm, hb1.out⟩
      · have HE : Hid (plB op a b c = knB op a b c) := arB_pl (.inr (.inr har))
        rw [har] at HA
        clear har h1 h6
        go_enter Tryd.func161, Tryd.ntmps161
        go_wp2_with fail
        refine (unhide HA _).mono ?_
        rintro e w' ⟨rfl, hw⟩
        obtain rfl := hw.symm
        go_wp2_with fail
        refine (unhide HI _ hb1.out).mono ?_
        rintro e w1 ⟨rfl, hb2⟩
        have HB2 := hide hb2
        clear hb2
        go_wp2_with fail
        go_ret
        exact ⟨ret_bool HE.out.symm, HFin.out _ HB2.out⟩

/-! ### the words of a block, nine cells -/
def wdZ (ws : List Nat) : List Int := (ws.length : Int) :: (nI ws ++ zr (8 - ws.length))
theorem wdZ_len {ws : List Nat} (h : ws.length ≤ 8) : (wdZ ws).length = 9 := by simp [wdZ, nI_len, zr_len]; omega
theorem wdZ_0 (ws : List Nat) : gz (wdZ ws) 0 = ws.length := rfl
theorem wdZ_at {ws : List Nat} {i : Nat} (h : i < ws.length) : gz (wdZ ws) (1 + i) = (ws.getD i 0 : Nat) := by
  rw [← nI_get]
  unfold gz wdZ
  rw [List.getD_eq_getElem?_getD, List.getD_eq_getElem?_getD, Nat.add_comm 1 i, List.getElem?_cons_succ, List.getElem?_append_left (by rw [nI_len]; exact h)]
theorem zr_succ (n : Nat) : zr (n + 1) = 0 :: zr n := rfl
theorem wdZ_add {ws : List Nat} (h : ws.length < 8) (v : Nat) : ((wdZ ws).set (1 + ws.length) (v : Int)).set 0 ((ws.length : Int) + 1) = wdZ (ws ++ [v]) := by
  unfold wdZ
  rw [Nat.add_comm 1 ws.length, List.set_cons_succ, List.set_cons_zero, List.set_append_right _ _ (by rw [nI_len]; exact Nat.le_refl _), nI_len, Nat.sub_self, show 8 - ws.length = (8 - (ws.length + 1)) + 1 by omega, zr_succ, List.set_cons_zero, List.length_append, List.length_singleton]
  congr 1
  have e : nI (ws ++ [v]) = nI ws ++ [(v : Int)] := by simp [nI]
  rw [e, List.append_assoc]
  rfl
/-- How many of them are plain: all, or all but the last. -/
def plN (ws : List Nat) : Nat := if 0 < ws.length ∧ plW (ws.getD (ws.length - 1) 0 : Nat) = false then ws.length - 1 else ws.length
theorem size9 : (Tryd.prog.info? 127).map (·.size) = some 9 := by kernel_rfl
theorem zero9 (w : World) : (zeroValue 127).run Tryd.prog w = .ok (.agg (S (wdZ []))) w := by kernel_rfl

set_option maxRecDepth 100000 in
set_option maxHeartbeats 1000000 in
theorem plainLen_any (ws : List Nat) (w : World) (ht : Tab w) (hl : ws.length ≤ 8) (hw : ∀ v ∈ ws, v < 4294967296) :
    Calls Tryd.prog 140 #[.agg (S (wdZ ws))] w fun e' w' => e' = .returned (.int .i64 (plN ws : Nat)) ∧ Below w.heap.size w w' := by
  have h0 := S_get (wdZ ws) 0 (by rw [wdZ_len hl]; decide)
  rw [wdZ_0] at h0
  have hb1 := hide ((Below.refl w.heap.size w).alloc (Nat.le_refl _) (.cells (S (wdZ ws)) 127))
  by_cases hp : 0 < ws.length
  · obtain ⟨m, hm⟩ : ∃ m, ws.length = m + 1 := ⟨ws.length - 1, by omega⟩
    have h1 := S_get (wdZ ws) (1 + m) (by rw [wdZ_len hl]; omega)
    rw [wdZ_at (by omega)] at h1
    have hv : ws.getD m 0 < 4294967296 := by
      rw [List.getD_eq_getElem?_getD, List.getElem?_eq_getElem (by omega)]
      exact hw _ (List.getElem_mem _)
    have HN : Hid (plN ws = if plW (ws.getD m 0 : Nat) = false then m else m + 1) := by
      unfold Hid plN
      rw [hm, Nat.add_sub_cancel]
      by_cases hq : plW (ws.getD m 0 : Nat) = false
      · rw [if_pos ⟨by omega, hq⟩, if_pos hq]
      · rw [if_neg (fun h => hq h.2), if_neg hq]
    have HSp := hide (fun w' => split_any (ws.getD m 0 : Nat) w' (by omega) (by omega))
    have HPl := hide (fun w' (hb : Below w.heap.size w w') => isPlain_any (ws.getD m 0 : Nat) w' (ht.below ht.pos hb))
    simp only [fieldsV] at HPl
    rw [hm] at h0
    have e0 : ((m + 1 : Nat) : Int) = (m : Int) + 1 := by omega
    rw [e0] at h0
    have hm8 : (m : Int) < 8 := by omega
    have hm7 : m < 8 := by omega
    generalize ws.getD m 0 = v at *
    clear hm hp e0
    generalize wdZ ws = z at *
    cases hq : plW (v : Int)
    · rw [hq] at HPl HN
      clear hq
      go_enter Tryd.func140, Tryd.ntmps140
      go_wp2_with fail
      refine (unhide HSp _).mono ?_
      rintro e w1 ⟨rfl, hb2⟩
      have hb2' : Below w.heap.size w w1 := hb1.out.trans (hb2.mono (by rw [size_alloc1]; omega))
      have c0 : w1.cell? ⟨w.heap.size, 0, none⟩ = some (.int .i64 ((m : Int) + 1)) := by rw [below_cell' hb2 _ _ (by rw [size_alloc1]; omega), World.cell?_alloc_at (hn := rfl)]; exact h0
      have HB2 := hide hb2'
      have hz2 : w.heap.size < w1.heap.size := block_lt_of_cell c0
      clear hb2 hb2'
      go_wp2_with fail
      refine (unhide HPl _ HB2.out).mono ?_
      rintro e w2 ⟨rfl, hb3⟩
      have d0 : w2.cell? ⟨w.heap.size, 0, none⟩ = some (.int .i64 ((m : Int) + 1)) := by rw [below_cell' hb3 _ _ hz2]; exact c0
      have HB3 : Hid (Below w.heap.size w w2) := HB2.out.trans (hb3.mono (Nat.le_of_lt hz2))
      clear hb3
      go_wp2_with fail
      go_ret
      exact ⟨ret_int (by rw [HN.out]; simp), HB3.out⟩
    · rw [hq] at HPl HN
      clear hq
      go_enter Tryd.func140, Tryd.ntmps140
      go_wp2_with fail
      refine (unhide HSp _).mono ?_
      rintro e w1 ⟨rfl, hb2⟩
      have hb2' : Below w.heap.size w w1 := hb1.out.trans (hb2.mono (by rw [size_alloc1]; omega))
      have c0 : w1.cell? ⟨w.heap.size, 0, none⟩ = some (.int .i64 ((m : Int) + 1)) := by rw [below_cell' hb2 _ _ (by rw [size_alloc1]; omega), World.cell?_alloc_at (hn := rfl)]; exact h0
      have HB2 := hide hb2'
      have hz2 : w.heap.size < w1.heap.size := block_lt_of_cell c0
      clear hb2 hb2'
      go_wp2_with fail
      refine (unhide HPl _ HB2.out).mono ?_
      rintro e w2 ⟨rfl, hb3⟩
      have d0 : w2.cell? ⟨w.heap.size, 0, none⟩ = some (.int .i64 ((m : Int) + 1)) := by rw [below_cell' hb3 _ _ hz2]; exact c0
      have HB3 : Hid (Below w.heap.size w w2) := HB2.out.trans (hb3.mono (Nat.le_of_lt hz2))
      clear hb3
      go_wp2_with fail
      go_ret
      exact ⟨ret_int (by rw [HN.out]; simp), HB3.out⟩
  · have hn : ws.length = 0 := by omega
    rw [hn] at h0
    have HN : Hid (plN ws = 0) := by unfold Hid plN; rw [if_neg (fun h => hp h.1), hn]
    clear hp hn
    generalize wdZ ws = z at *
    have h0' : (S z)[0]? = some (.int .i64 0) := h0
    clear h0
    go_enter Tryd.func140, Tryd.ntmps140
    go_wp2_with fail
    go_ret
    exact ⟨ret_int (by rw [HN.out]; rfl), hb1.out⟩
end Go.Proofs.YtmmflekajbeamaaDoor
