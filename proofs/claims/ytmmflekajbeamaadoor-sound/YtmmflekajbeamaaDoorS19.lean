/-
  Plans: the puts of a plan's text, by the document's answer (cribref.Puts).
  Plans: crib.Do; the document's Do.
  Translates: the block at a place of the memory, the program's answer (block.Block).
  Sound and Turned, as plain mathematics: a plan's text is read back, a block's text too; the steps over a block's plain words; what a plan that is taken does.
-/
import Derived.Test.YtmmflekajbeamaaDoorS12
import Derived.BigRegion
import Derived.Deep.Cut
import Derived.Deep.CutRange
import Derived.Test.YtmmflekajbeamaaDoorS18
import Derived.Test.YtmmflekajbeamaaDoorS03
import Derived.Test.YtmmflekajbeamaaDoorS17
namespace Go.Proofs.YtmmflekajbeamaaDoor
open Go.RowKit

def bd1 (c0 c1 c2 c3 : Int) : Bool := decide (c0 < 1 ∨ 7 < c0 ∨ 16 ≤ c1 ∨ 16 ≤ c2 ∨ 16 ≤ c3)
def bd2 (c0 c2 c3 : Int) : Bool := decide (c0 = 1 ∧ (c2 ≠ 0 ∨ c3 ≠ 0))
def bd3 (c0 k : Int) : Bool := decide (2 ≤ c0 ∧ c0 ≤ 5 ∧ k ≠ 0)
def bd4 (c0 c3 k : Int) : Bool := decide (c0 = 6 ∧ (c3 ≠ 0 ∨ 4095 < k))
def bd5 (c0 c3 k : Int) : Bool := decide (c0 = 7 ∧ (c3 ≠ 0 ∨ k ≠ 0))
theorem put_cases (x d a b k : Int) :
    (okPutI x d a b k = true ∧ d < 16 ∧ a < 16 ∧ b < 16 ∧ ((x = 1 ∧ a = 0 ∧ b = 0) ∨ (2 ≤ x ∧ x ≤ 5 ∧ k = 0) ∨ (x = 6 ∧ b = 0 ∧ k ≤ 4095) ∨ (x = 7 ∧ b = 0 ∧ k = 0))) ∨
    (okPutI x d a b k = false ∧ (x < 1 ∨ 7 < x ∨ 16 ≤ d ∨ 16 ≤ a ∨ 16 ≤ b ∨ (x = 1 ∧ (a ≠ 0 ∨ b ≠ 0)) ∨ (2 ≤ x ∧ x ≤ 5 ∧ k ≠ 0) ∨ (x = 6 ∧ (b ≠ 0 ∨ 4095 < k)) ∨ (x = 7 ∧ (b ≠ 0 ∨ k ≠ 0)))) := by
  unfold okPutI
  by_cases h : (d < 16 ∧ a < 16 ∧ b < 16 ∧ ((x = 1 ∧ a = 0 ∧ b = 0) ∨ (2 ≤ x ∧ x ≤ 5 ∧ k = 0) ∨ (x = 6 ∧ b = 0 ∧ k ≤ 4095) ∨ (x = 7 ∧ b = 0 ∧ k = 0)))
  · left
    rw [decide_eq_true h]
    exact ⟨rfl, h⟩
  · right
    rw [decide_eq_false h]
    refine ⟨rfl, ?_⟩
    by_cases g1 : x < 1
    · exact .inl g1
    right
    by_cases g7 : 7 < x
    · exact .inl g7
    right
    by_cases gd : 16 ≤ d
    · exact .inl gd
    right
    by_cases ga : 16 ≤ a
    · exact .inl ga
    right
    by_cases gb : 16 ≤ b
    · exact .inl gb
    right
    have hx : x = 1 ∨ (2 ≤ x ∧ x ≤ 5) ∨ x = 6 ∨ x = 7 := by omega
    rcases hx with hx | hx | hx | hx
    · exact .inl ⟨hx, by
        by_cases a0 : a = 0
        · exact .inr fun e => h ⟨by omega, by omega, by omega, .inl ⟨hx, a0, e⟩⟩
        · exact .inl a0⟩
    · exact .inr (.inl ⟨hx.1, hx.2, fun e => h ⟨by omega, by omega, by omega, .inr (.inl ⟨hx.1, hx.2, e⟩)⟩⟩)
    · exact .inr (.inr (.inl ⟨hx, by
        by_cases b0 : b = 0
        · exact .inr (Int.not_le.1 fun e => h ⟨by omega, by omega, by omega, .inr (.inr (.inl ⟨hx, b0, e⟩))⟩)
        · exact .inl b0⟩))
    · exact .inr (.inr (.inr ⟨hx, by
        by_cases b0 : b = 0
        · exact .inr fun e => h ⟨by omega, by omega, by omega, .inr (.inr (.inr ⟨hx, b0, e⟩))⟩
        · exact .inl b0⟩))
theorem bd_ok (c0 c1 c2 c3 k : Int) : ((((bd1 c0 c1 c2 c3 || bd2 c0 c2 c3) || bd3 c0 k) || bd4 c0 c3 k) || bd5 c0 c3 k) = !okPutI c0 c1 c2 c3 k := by
  have h := put_cases c0 c1 c2 c3 k
  rcases h with ⟨h, hc⟩ | ⟨h, hc⟩
  · rw [h]
    simp only [bd1, bd2, bd3, bd4, bd5, Bool.or_eq_false_iff, Bool.not_true, decide_eq_false_iff_not]
    refine ⟨⟨⟨⟨?_, ?_⟩, ?_⟩, ?_⟩, ?_⟩ <;> omega
  · rw [h]
    simp only [bd1, bd2, bd3, bd4, bd5, Bool.or_eq_true, Bool.not_false, decide_eq_true_eq]
    omega

set_option maxRecDepth 100000 in
set_option maxHeartbeats 2000000 in
theorem refPuts_any (s : ByteArray) (w : World) (hs : s.size ≤ maxLen) :
    Calls Tryd.prog 49 #[.string s] w (PutsPost s w) := by
  obtain ⟨inf, hinf, hz, hsz1, hby⟩ := infoPut
  have HInf := hide hinf; have HZ := hide hz; have HSz := hide hsz1; have HBy := hide hby
  clear hinf hz hsz1 hby
  unfold maxLen at hs
  by_cases h80 : s.size ≤ 80
  · have h80' : decide ((80 : Int) < (s.size : Int)) = false := by simp; omega
    by_cases h8 : s.size % 8 = 0
    · have h8' : (s.size : Int) % 8 = 0 := by omega
      go_enter Tryd.func49, Tryd.ntmps49
      go_wp2_with fail
      go_loopw [4, 5] (fun v i wr => ∃ k j : Nat, 8 * k ≤ s.size ∧ j = 8 * k ∧ i = .int .i64 j ∧ wr.ownsRow w.heap.size 59 5 v k (putCs (putL s k)) ∧ Below w.heap.size w wr ∧ Hid (∀ q, q < k → okPut (putAt s (8 * q)))) (fun _ i _ => s.size - (intOf i).toNat)
      case atStart => exact ⟨0, 0, Nat.zero_le _, rfl, rfl, World.ownsRow_nil _ _ _ _, Below.refl _ _, fun q hq => by omega⟩
      case round =>
        obtain ⟨k, j, hk, hj, rfl, hown, hbl, HG⟩ := hrel
        obtain ⟨va, vc, hv⟩ := owns_len hown
        subst hv
        have HO := hide hown; have HBl := hide hbl; have HJ := hide hj
        have hwz := hbl.size
        by_cases hlt : j < s.size
        · have hlt' : (j : Int) < (s.size : Int) := by omega
          have hj8 : j + 8 ≤ s.size := by omega
          have hkk : k ≤ 10 := by omega
          have hr := fun w' => value_any s (j + 4) 4 w' (by decide) (by omega) (by omega)
          have e4 : ((j + 4 : Nat) : Int) = (j : Int) + 4 := by omega
          rw [e4] at hr
          have HR := hide hr
          clear hr hown hbl hj h8 h8' hk e4
          have HDec : Hid (okPutI (bt s j) (bt s (j + 1)) (bt s (j + 2)) (bt s (j + 3)) (beN s (j + 4) 4) = @decide (okPut (putAt s j)) (okDec _)) := okPutI_eq (putAt s j)
          have v1 : IntKind.i64.wrap ((j : Int) + 1) = ((j + 1 : Nat) : Int) := IntWalk.i64_in _ ⟨by omega, by omega⟩
          have v2 : IntKind.i64.wrap ((j : Int) + 2) = ((j + 2 : Nat) : Int) := IntWalk.i64_in _ ⟨by omega, by omega⟩
          have v3 : IntKind.i64.wrap ((j : Int) + 3) = ((j + 3 : Nat) : Int) := IntWalk.i64_in _ ⟨by omega, by omega⟩
          have l1 : j + 1 < s.size := by omega
          have l2 : j + 2 < s.size := by omega
          have l3 : j + 3 < s.size := by omega
          have HJ2 : Hid (j + 8 ≤ s.size) := hj8
          clear hj8
          have HS : Hid (putCs (putL s (k + 1)) = putCs (putL s k) ++ [.int .i64 (bt s j), .int .i64 (bt s (j + 1)), .int .i64 (bt s (j + 2)), .int .i64 (bt s (j + 3)), .int .i64 (beN s (j + 4) 4)]) := by
            unfold Hid
            rw [putL_succ, putCs_snoc, ← HJ.out]
            rfl
          generalize (beN s (j + 4) 4 : Int) = k4 at *
          generalize j + 1 = j1 at *
          generalize j + 2 = j2 at *
          generalize j + 3 = j3 at *
          have g0 := bt_get s j hlt; have g1 := bt_get s j1 l1; have g2 := bt_get s j2 l2; have g3 := bt_get s j3 l3
          have q1 : (j1 : Int) < (s.size : Int) := by omega
          have q2 : (j2 : Int) < (s.size : Int) := by omega
          have q3 : (j3 : Int) < (s.size : Int) := by omega
          have b0 := bt_lt s j; have b1 := bt_lt s j1; have b2 := bt_lt s j2; have b3 := bt_lt s j3
          have z0 : IntKind.i64.wrap (bt s j : Int) = bt s j := IntWalk.i64_in _ ⟨by omega, by omega⟩
          have z1 : IntKind.i64.wrap (bt s j1 : Int) = bt s j1 := IntWalk.i64_in _ ⟨by omega, by omega⟩
          have z2 : IntKind.i64.wrap (bt s j2 : Int) = bt s j2 := IntWalk.i64_in _ ⟨by omega, by omega⟩
          have z3 : IntKind.i64.wrap (bt s j3 : Int) = bt s j3 := IntWalk.i64_in _ ⟨by omega, by omega⟩
          go_wp2_with fail
          refine (unhide HR _).mono ?_
          rintro e w' ⟨rfl, hw⟩
          obtain rfl := hw.symm
          go_wp2_with fail
          refine held_tail 21 2 (fun _ => True) (by kernel_rfl) (by kernel_rfl) (fun d _ _ _ _ h => by cases d <;> exact h) trivial ?_
          simp only [List.take_succ_cons, List.take_zero, List.drop_succ_cons, List.drop_zero]
          iterate 21
            refine wpTake_step ?_ rfl ?_ ?_
            rotate_left
            · rintro w' d0
              go_simp
              rfl
            go_simp
          refine wpTake_nil ?_
          iterate 2
            refine wpTail_step rfl (fun K hK => ?_)
            go_simp
            refine hK _ _ trivial ?_
            clear hK K
          unfold wpTailS
          clear g0 g1 g2 g3 b0 b1 b2 b3 z0 z1 z2 z3 v1 v2 v3 l1 l2 l3 q1 q2 q3
          generalize (bt s j : Int) = c0 at *
          generalize (bt s j1 : Int) = c1 at *
          generalize (bt s j2 : Int) = c2 at *
          generalize (bt s j3 : Int) = c3 at *
          go_upto_region 9 with fail
          go_cut [8] from 18 to 140 (fun b wx => b = .bool (bd1 c0 c1 c2 c3) ∧ wx = (wr.alloc (.cells #[.int .i64 c0, .int .i64 c1, .int .i64 c2, .int .i64 c3, .int .i64 k4] 59)).drew)
          case first =>
            by_cases g1 : c0 < 1
            · go_wp2_with fail
              go_meet
              exact ⟨congrArg Value.bool (decide_eq_true (by omega)).symm, rfl⟩
            have h1 : decide (c0 < 1) = false := by simpa using g1
            by_cases g7 : 7 < c0
            · go_wp2_with fail
              go_meet
              exact ⟨congrArg Value.bool (decide_eq_true (by omega)).symm, rfl⟩
            have h7 : decide (7 < c0) = false := by simpa using g7
            by_cases gd : 16 ≤ c1
            · go_wp2_with fail
              go_meet
              exact ⟨congrArg Value.bool (decide_eq_true (by omega)).symm, rfl⟩
            have hd : decide (16 ≤ c1) = false := by simpa using gd
            by_cases ga : 16 ≤ c2
            · go_wp2_with fail
              go_meet
              exact ⟨congrArg Value.bool (decide_eq_true (by omega)).symm, rfl⟩
            have ha : decide (16 ≤ c2) = false := by simpa using ga
            by_cases gb : 16 ≤ c3
            · go_wp2_with fail
              go_meet
              exact ⟨congrArg Value.bool (decide_eq_true (by omega)).symm, rfl⟩
            have hb : decide (16 ≤ c3) = false := by simpa using gb
            go_wp2_with fail
            go_meet
            exact ⟨congrArg Value.bool (decide_eq_false (by omega)).symm, rfl⟩
          case rest =>
          obtain ⟨rfl, rfl⟩ := hcut
          generalize hE1 : bd1 c0 c1 c2 c3 = e1 at *
          have HE1 := hide hE1
          clear hE1
          go_upto_region 10 with fail
          go_cut [8] from 18 to 140 (fun b wx => b = .bool (e1 || bd2 c0 c2 c3) ∧ wx = (wr.alloc (.cells #[.int .i64 c0, .int .i64 c1, .int .i64 c2, .int .i64 c3, .int .i64 k4] 59)).drew)
          case first =>
            cases e1
            · by_cases g1 : c0 = 1
              · subst g1
                by_cases ga : c2 = 0
                · subst ga
                  by_cases gb : c3 = 0
                  · subst gb
                    go_wp2_with fail
                    go_meet
                    exact ⟨congrArg Value.bool (by decide), rfl⟩
                  · have gb' : (c3 == 0) = false := by simpa using gb
                    go_wp2_with fail
                    go_meet
                    exact ⟨congrArg Value.bool ((bne_iff_ne.2 gb).trans (decide_eq_true (by omega)).symm), rfl⟩
                · have ga' : (c2 == 0) = false := by simpa using ga
                  go_wp2_with fail
                  go_meet
                  exact ⟨congrArg Value.bool (decide_eq_true (by omega)).symm, rfl⟩
              · have g1' : (c0 == 1) = false := by simpa using g1
                go_wp2_with fail
                go_meet
                exact ⟨congrArg Value.bool (decide_eq_false (by omega)).symm, rfl⟩
            · go_wp2_with fail
              go_meet
              exact ⟨rfl, rfl⟩
          case rest =>
          obtain ⟨rfl, rfl⟩ := hcut
          generalize hE2 : (e1 || bd2 c0 c2 c3) = e2 at *
          have HE2 := hide hE2
          clear hE2
          go_upto_region 11 with fail
          go_cut [8] from 18 to 140 (fun b wx => b = .bool (e2 || bd3 c0 k4) ∧ wx = (wr.alloc (.cells #[.int .i64 c0, .int .i64 c1, .int .i64 c2, .int .i64 c3, .int .i64 k4] 59)).drew)
          case first =>
            cases e2
            · by_cases g2 : 2 ≤ c0
              · by_cases g5 : c0 ≤ 5
                · by_cases gk : k4 = 0
                  · subst gk
                    go_wp2_with fail
                    go_meet
                    exact ⟨congrArg Value.bool (decide_eq_false (by omega)).symm, rfl⟩
                  · have gk' : (k4 == 0) = false := by simpa using gk
                    go_wp2_with fail
                    go_meet
                    exact ⟨congrArg Value.bool ((bne_iff_ne.2 gk).trans (decide_eq_true (by omega)).symm), rfl⟩
                · have g5' : decide (c0 ≤ 5) = false := by simpa using g5
                  go_wp2_with fail
                  go_meet
                  exact ⟨congrArg Value.bool (decide_eq_false (by omega)).symm, rfl⟩
              · have g2' : decide (2 ≤ c0) = false := by simpa using g2
                go_wp2_with fail
                go_meet
                exact ⟨congrArg Value.bool (decide_eq_false (by omega)).symm, rfl⟩
            · go_wp2_with fail
              go_meet
              exact ⟨rfl, rfl⟩
          case rest =>
          obtain ⟨rfl, rfl⟩ := hcut
          generalize hE3 : (e2 || bd3 c0 k4) = e3 at *
          have HE3 := hide hE3
          clear hE3
          go_upto_region 12 with fail
          go_cut [8] from 18 to 140 (fun b wx => b = .bool (e3 || bd4 c0 c3 k4) ∧ wx = (wr.alloc (.cells #[.int .i64 c0, .int .i64 c1, .int .i64 c2, .int .i64 c3, .int .i64 k4] 59)).drew)
          case first =>
            cases e3
            · by_cases g6 : c0 = 6
              · subst g6
                by_cases gb : c3 = 0
                · subst gb
                  by_cases gk : 4095 < k4
                  · go_wp2_with fail
                    go_meet
                    exact ⟨congrArg Value.bool (decide_eq_true (by omega)).symm, rfl⟩
                  · have gk' : decide (4095 < k4) = false := by simpa using gk
                    go_wp2_with fail
                    go_meet
                    exact ⟨congrArg Value.bool (decide_eq_false (by omega)).symm, rfl⟩
                · have gb' : (c3 == 0) = false := by simpa using gb
                  go_wp2_with fail
                  go_meet
                  exact ⟨congrArg Value.bool (decide_eq_true (by omega)).symm, rfl⟩
              · have g6' : (c0 == 6) = false := by simpa using g6
                go_wp2_with fail
                go_meet
                exact ⟨congrArg Value.bool (decide_eq_false (by omega)).symm, rfl⟩
            · go_wp2_with fail
              go_meet
              exact ⟨rfl, rfl⟩
          case rest =>
          obtain ⟨rfl, rfl⟩ := hcut
          generalize hE4 : (e3 || bd4 c0 c3 k4) = e4 at *
          have HE4 := hide hE4
          clear hE4
          go_upto_region 13 with fail
          go_cut [8] from 18 to 140 (fun b wx => b = .bool (e4 || bd5 c0 c3 k4) ∧ wx = (wr.alloc (.cells #[.int .i64 c0, .int .i64 c1, .int .i64 c2, .int .i64 c3, .int .i64 k4] 59)).drew)
          case first =>
            cases e4
            · by_cases g7 : c0 = 7
              · subst g7
                by_cases gb : c3 = 0
                · subst gb
                  by_cases gk : k4 = 0
                  · subst gk
                    go_wp2_with fail
                    go_meet
                    exact ⟨congrArg Value.bool (by decide), rfl⟩
                  · have gk' : (k4 == 0) = false := by simpa using gk
                    go_wp2_with fail
                    go_meet
                    exact ⟨congrArg Value.bool ((bne_iff_ne.2 gk).trans (decide_eq_true (by omega)).symm), rfl⟩
                · have gb' : (c3 == 0) = false := by simpa using gb
                  go_wp2_with fail
                  go_meet
                  exact ⟨congrArg Value.bool (decide_eq_true (by omega)).symm, rfl⟩
              · have g7' : (c0 == 7) = false := by simpa using g7
                go_wp2_with fail
                go_meet
                exact ⟨congrArg Value.bool (decide_eq_false (by omega)).symm, rfl⟩
            · go_wp2_with fail
              go_meet
              exact ⟨rfl, rfl⟩
          case rest =>
          obtain ⟨rfl, rfl⟩ := hcut
          generalize hE5 : (e4 || bd5 c0 c3 k4) = e5 at *
          have HE5 : Hid (e5 = !okPutI c0 c1 c2 c3 k4) := by
            unfold Hid
            rw [← bd_ok, HE1.out, HE2.out, HE3.out, HE4.out, hE5]
          clear hE5 HE1 HE2 HE3 HE4
          by_cases hokp : okPut (putAt s j)
          · have he : e5 = false := by have h1 := HE5.out; have h2 := HDec.out; rw [@decide_eq_true _ (okDec _) hokp] at h2; rw [h1, h2]; rfl
            subst he
            have HK : Hid (∀ q, q < k + 1 → okPut (putAt s (8 * q))) := fun q hq => by
              by_cases hqk : q = k
              · subst hqk; rw [← HJ.out]; exact hokp
              · exact HG.out q (by omega)
            clear hokp HDec HE5
            go_wp2_with (at_builtin; refine wpList_append_lies _ rfl _ _ 61 rfl w.heap.size 59 inf _ 5 40 Tryd.underlying61 HInf.out HZ.out HSz.out HBy.out rfl (by decide) (.slice va k vc) k (putCs (putL s k)) rfl ((HO.out.alloc _).alloc _).drew ⟨wr.heap.size + 1, 0, none⟩ 1 1 [.int .i64 c0, .int .i64 c1, .int .i64 c2, .int .i64 c3, .int .i64 k4] rfl rfl (World.news_of_block (by have := _root_.Go.heap_alloc_new (wr.alloc (.cells #[.int .i64 c0, .int .i64 c1, .int .i64 c2, .int .i64 c3, .int .i64 k4] 59)) (.cells #[.int .i64 c0, .int .i64 c1, .int .i64 c2, .int .i64 c3, .int .i64 k4] 59); rw [size_alloc1] at this; exact this)) (fun u hu => by simp at hu; rcases hu with rfl | rfl | rfl | rfl | rfl <;> rfl) (by decide) (by unfold maxLen; omega) (by omega) (by show w.heap.size ≤ ((wr.alloc _).alloc _).heap.size; rw [size_alloc1, size_alloc1]; omega) (wr.heap.size + 1 + 1) (by show ((wr.alloc _).alloc _).heap.size = _; rw [size_alloc1, size_alloc1]) ?_; intro g2' cap2 w3 hown2 hgr2 hat2 hlt2; have HO3 := hide hown2; have HGr := hide hgr2; clear hown2 hgr2 hat2)
            refine ⟨⟨k + 1, j + 8, by have := HJ.out; have := HJ2.out; omega, by have := HJ.out; omega, by go_num, ?_, ?_, HK⟩, by simp [intOf]; have := HJ2.out; omega⟩
            · rw [HS.out]
              exact HO3.out
            · exact (((HBl.out.alloc hwz _).alloc (by rw [size_alloc1]; omega) _).drew).grown HGr.out (by show w.heap.size ≤ ((wr.alloc _).alloc _).heap.size; rw [size_alloc1, size_alloc1]; omega) (fun q hq => (row_lt HO.out q hq).1)
          · have he : e5 = true := by have h1 := HE5.out; have h2 := HDec.out; rw [@decide_eq_false _ (okDec _) hokp] at h2; rw [h1, h2]; rfl
            subst he
            have HN : Hid (¬ putsOK s) := fun h => hokp (by have := h.2.2 k (by have := HJ.out; have := HJ2.out; omega); rw [← HJ.out] at this; exact this)
            clear hokp HDec HE5 HS
            go_wp2_with fail
            go_ret2
            exact ⟨(HBl.out.alloc hwz _).drew, .inr ⟨HN.out, rfl⟩⟩
        · have hlt' : ¬ (j : Int) < (s.size : Int) := by omega
          have hkn : k = s.size / 8 := by omega
          have HOK : Hid (putsOK s) := ⟨h8, h80, fun q hq => HG.out q (by omega)⟩
          clear hown hbl hj hk
          go_wp2_with fail
          go_ret2
          rw [hkn] at HO
          exact ⟨HBl.out, .inl ⟨HOK.out, _, rfl, HO.out⟩⟩
    · have h8' : ((s.size : Int) % 8 == 0) = false := by simp; omega
      have HN : Hid (¬ putsOK s) := fun h => h8 h.1
      go_enter Tryd.func49, Tryd.ntmps49
      go_wp2_with fail
      go_ret2
      exact ⟨Below.refl _ _, .inr ⟨HN.out, rfl⟩⟩
  · have h80' : (80 : Int) < (s.size : Int) := by omega
    have HN : Hid (¬ putsOK s) := fun h => h80 h.2.1
    go_enter Tryd.func49, Tryd.ntmps49
    go_wp2_with fail
    go_ret2
    exact ⟨Below.refl _ _, .inr ⟨HN.out, rfl⟩⟩
end Go.Proofs.YtmmflekajbeamaaDoor

namespace Go.Proofs.YtmmflekajbeamaaDoor
open Go.RowKit

set_option maxRecDepth 100000 in
set_option maxHeartbeats 1000000 in
theorem cribDo_any (p : ByteArray) (regs mem : List Int) (w : World) (hr : regs.length = 8) (hm : mem.length = 128) (hp : p.size ≤ maxLen) :
    Calls Tryd.prog 52 #[.string p, .agg (S regs), .agg (S mem)] w (DoPost p regs mem w) := by
  have z8 := zero8
  obtain ⟨W0, hW0⟩ : ∃ W0, W0 = ((w.alloc (.cells (S regs) 31)).alloc (.cells (S mem) 32)).alloc (.cells (S (zr 8)) 31) := ⟨_, rfl⟩
  have HW := hide hW0
  have hb0 : Below w.heap.size w W0 := by rw [hW0]; exact below3 w _ _ _
  have hz0 : W0.heap.size = w.heap.size + 1 + 1 + 1 := by rw [hW0, size_alloc1, size_alloc1, size_alloc1]
  have r0 : RowI W0 w.heap.size 31 regs := by
    unfold RowI; rw [hW0, Below.heap_alloc _ _ _ (by rw [size_alloc1, size_alloc1]; omega), Below.heap_alloc _ _ _ (by rw [size_alloc1]; omega), _root_.Go.heap_alloc_new]
  have r1 : RowI W0 (w.heap.size + 1) 32 mem := by
    unfold RowI
    rw [hW0, Below.heap_alloc _ _ _ (by rw [size_alloc1, size_alloc1]; omega)]
    have := _root_.Go.heap_alloc_new (w.alloc (.cells (S regs) 31)) (.cells (S mem) 32)
    rw [size_alloc1] at this
    exact this
  have r2 : RowI W0 (w.heap.size + 1 + 1) 31 (zr 8) := by
    unfold RowI
    rw [hW0]
    have := _root_.Go.heap_alloc_new ((w.alloc (.cells (S regs) 31)).alloc (.cells (S mem) 32)) (.cells (S (zr 8)) 31)
    rw [size_alloc1, size_alloc1] at this
    exact this
  have HD := hide (plansDo_any p regs mem W0 hr hm hp)
  have HR0 := hide r0; have HR1 := hide r1; have HR2 := hide r2; have HB0 := hide hb0
  clear r0 r1 r2 hb0 hW0
  have hfin : ∀ w1 z n, Below W0.heap.size W0 w1 → z.length = 8 → (∀ w', Below w.heap.size w w' → DoPost p regs mem w (.returned (.tuple #[.agg (S z), .int .i64 n])) w') → RowI w1 (w.heap.size + 1 + 1) 31 (zr 8) ∧ DoPost p regs mem w (.returned (.tuple #[.agg (S z), .int .i64 n])) (w1.setRow (w.heap.size + 1 + 1) (S z)) := fun w1 z n hb hz hd =>
    ⟨HR2.out.keep (hb.block _ (by omega)), hd _ (below_setRow (HB0.out.trans (hb.mono (by omega))) (by omega) _)⟩
  have HFin := hide hfin
  clear hfin
  have key : ∀ e w1, DoPost p regs mem W0 e w1 → ∃ z n, e = .returned (.tuple #[.agg (S z), .int .i64 n]) ∧ z.length = 8 ∧ Below W0.heap.size W0 w1 ∧ ∀ w', Below w.heap.size w w' → DoPost p regs mem w (.returned (.tuple #[.agg (S z), .int .i64 n])) w' := fun e w1 h => by
    obtain ⟨hb, ⟨h1, rfl⟩ | ⟨h1, h2, rfl⟩ | ⟨h1, h2, rfl⟩⟩ := h
    · exact ⟨_, _, rfl, zr_len 8, hb, fun w' hb' => ⟨hb', .inl ⟨h1, rfl⟩⟩⟩
    · exact ⟨_, _, rfl, zr_len 8, hb, fun w' hb' => ⟨hb', .inr (.inl ⟨h1, h2, rfl⟩)⟩⟩
    · refine ⟨_, _, rfl, ?_, hb, fun w' hb' => ⟨hb', .inr (.inr ⟨h1, h2, rfl⟩)⟩⟩
      have hl : ((putL p (p.size / 8)).foldl (stD mem) (begD regs)).length = 16 := by
        have := (WL.fold (allW_WL h1.2 hm) (putL_ok h2) (putL p (p.size / 8)).length (begD regs) (Nat.le_refl _) (WL.beg (allW_WL h1.1 hr))).1
        rw [List.take_length] at this
        exact this
      unfold doL
      rw [List.length_take, hl]
      rfl
  have HKey := hide key
  clear key
  go_enter Tryd.func52, Tryd.ntmps52
  go_wp2_with (first | (refine wpList_loadR rfl Tryd.underlying31 size8 rfl _ rfl w.heap.size rfl (by rw [← HW.out]; exact HR0.out.isRow 8 hr) (S regs) (by rw [← HW.out]; exact HR0.out.rowD) ?_) | (refine wpList_loadR rfl Tryd.underlying32 size128 rfl _ rfl (w.heap.size + 1) rfl (by rw [← HW.out]; exact HR1.out.isRow 128 hm) (S mem) (by rw [← HW.out]; exact HR1.out.rowD) ?_))
  rw [← HW.out]
  refine (unhide HD).mono ?_
  intro e w1 hpost
  obtain ⟨z, n, rfl, hz, hb, hd⟩ := HKey.out e w1 hpost
  have HF := hide (HFin.out w1 z n hb hz hd)
  clear hpost hb hd HD HKey
  go_wp2_with (refine wpList_storeR size8 rfl _ _ rfl (w.heap.size + 1 + 1) rfl z rfl hz (HF.out.1.isRow 8 (zr_len 8)) _ rfl ?_)
  exact bodyPost_ret (v := .tuple #[.agg (S z), .int .i64 n]) (res_8 Tryd.results52 _ _ (w.heap.size + 1 + 1) z hz rfl (HF.out.1.setRow8 z) _ rfl) rfl HF.out.2
end Go.Proofs.YtmmflekajbeamaaDoor

namespace Go.Proofs.YtmmflekajbeamaaDoor
open Go.RowKit

/-- Is it a memory, and a place in it? -/
def inM (mem : List Int) (pc : Int) : Prop := allW (gz mem) 128 = true ∧ 0 ≤ pc ∧ pc < 128
theorem inM_bd {mem : List Int} (hl : mem.length = 128) (h : allW (gz mem) 128 = true) (i : Nat) : 0 ≤ mem.getD i 0 ∧ mem.getD i 0 < 4294967296 := by
  by_cases hi : i < 128
  · exact (allW_WL h hl).at hi
  · rw [List.getD_eq_getElem?_getD, List.getElem?_eq_none (by omega)]
    decide
theorem blkN_le (mem : List Int) : ∀ (f p : Nat), blkN mem f p ≤ f := by
  intro f
  induction f with
  | zero => intro p; exact Nat.le_refl _
  | succ f ih =>
    intro p
    rw [blkN]
    have := ih (p + 1)
    split
    · split <;> omega
    · omega
/-- What a call of Block leaves. -/
def BlkPost (mem : List Int) (pc : Int) (w : World) (e' : Ending) (w' : World) : Prop :=
  Below w.heap.size w w' ∧ ((inM mem pc ∧ e' = .returned (.tuple #[.string (bya (blkTxt mem pc.toNat)), .int .i64 0])) ∨ (¬ inM mem pc ∧ e' = .returned (.tuple #[.string (bya []), .int .i64 8])))
theorem BlkPost.up {mem : List Int} {pc : Int} {w w0 : World} (hb : Below w.heap.size w w0) {e : Ending} {w1 : World} (h : BlkPost mem pc w0 e w1) : BlkPost mem pc w e w1 := ⟨hb.trans (h.1.mono hb.size), h.2⟩

set_option maxRecDepth 100000 in
set_option maxHeartbeats 2000000 in
theorem block_any (mem : List Int) (pc : Int) (w : World) (ht : Tab w) (hl : mem.length = 128) :
    Calls Tryd.prog 57 #[.agg (S mem), .int .i64 pc] w (BlkPost mem pc w) := by
  obtain ⟨W0, hW0⟩ : ∃ W0, W0 = w.alloc (.cells (S mem) 32) := ⟨_, rfl⟩
  have HW := hide hW0
  have hb0 : Below w.heap.size w W0 := by rw [hW0]; exact (Below.refl _ _).alloc (Nat.le_refl _) _
  have hz0 : W0.heap.size = w.heap.size + 1 := by rw [hW0, size_alloc1]
  have r0 : RowI W0 w.heap.size 32 mem := by unfold RowI; rw [hW0, _root_.Go.heap_alloc_new]
  have H2 := hide (areWords_any w.heap.size 0 128 (gz mem) W0 (by omega) (fun i hi => by rw [Nat.zero_add]; exact r0.cell i (by omega)))
  have HR0 := hide r0; have HB0 := hide hb0
  have ht0 := ht.below ht.pos hb0
  have HBad : Hid (¬ inM mem pc → BlkPost mem pc w (.returned (.tuple #[.string (bya []), .int .i64 8])) W0) := fun h => ⟨HB0.out, .inr ⟨h, rfl⟩⟩
  clear r0 hb0 hW0
  cases hq : allW (gz mem) 128
  · rw [hq] at H2
    have HN : Hid (¬ inM mem pc) := fun h => by have := h.1; rw [hq] at this; cases this
    clear hq
    go_enter Tryd.func57, Tryd.ntmps57
    go_wp2_with fail
    rw [← HW.out]
    refine (unhide H2).mono ?_
    rintro e w' ⟨rfl, hw⟩
    obtain rfl := hw.symm
    go_wp2_with fail
    go_ret2
    exact HBad.out HN.out
  · rw [hq] at H2
    by_cases h0 : pc < 0
    · have HN : Hid (¬ inM mem pc) := fun h => by have := h.2.1; omega
      clear hq
      go_enter Tryd.func57, Tryd.ntmps57
      go_wp2_with fail
      rw [← HW.out]
      refine (unhide H2).mono ?_
      rintro e w' ⟨rfl, hw⟩
      obtain rfl := hw.symm
      go_wp2_with fail
      go_ret2
      exact HBad.out HN.out
    · by_cases h1 : 128 ≤ pc
      · have HN : Hid (¬ inM mem pc) := fun h => by have := h.2.2; omega
        clear hq
        go_enter Tryd.func57, Tryd.ntmps57
        go_wp2_with fail
        rw [← HW.out]
        refine (unhide H2).mono ?_
        rintro e w' ⟨rfl, hw⟩
        obtain rfl := hw.symm
        go_wp2_with fail
        go_ret2
        exact HBad.out HN.out
      · have HY : Hid (inM mem pc) := ⟨hq, by omega, by omega⟩
        obtain ⟨n, rfl⟩ : ∃ n : Nat, pc = (n : Int) := ⟨pc.toNat, by omega⟩
        have hm := inM_bd hl hq
        have HAt := hide (blockAt_any mem n W0 ht0 hl hm (by omega))
        have HTx := hide (fun w' => wdText_any (blkW mem n (blkN mem 8 n)) w' (by rw [blkW_len]; exact blkN_le mem 8 n) (blkW_bd mem n _ hm))
        have HE : Hid (blkTxt mem ((n : Int)).toNat = wdsT (blkW mem n (blkN mem 8 n))) := by unfold Hid; rw [Int.toNat_natCast]; rfl
        have HFin : Hid (∀ w', Below W0.heap.size W0 w' → BlkPost mem (n : Int) w (.returned (.tuple #[.string (bya (wdsT (blkW mem n (blkN mem 8 n)))), .int .i64 0])) w') := fun w' hb => ⟨HB0.out.trans (hb.mono (by omega)), .inl ⟨HY.out, by rw [HE.out]⟩⟩
        clear hq hm ht0
        generalize blkW mem n (blkN mem 8 n) = ws at *
        have h0' : ¬ (n : Int) < 0 := by omega
        have h1' : ¬ (128 : Int) ≤ (n : Int) := by omega
        go_enter Tryd.func57, Tryd.ntmps57
        go_wp2_with fail
        rw [← HW.out]
        refine (unhide H2).mono ?_
        rintro e w' ⟨rfl, hw⟩
        obtain rfl := hw.symm
        go_wp2_with (refine wpList_loadR rfl Tryd.underlying32 size128 rfl _ rfl w.heap.size rfl (HR0.out.isRow 128 hl) (S mem) HR0.out.rowD ?_)
        refine (unhide HAt).mono ?_
        rintro e w1 ⟨rfl, hb1⟩
        have HB1 := hide hb1
        clear hb1
        go_wp2_with fail
        refine (unhide HTx _).mono ?_
        rintro e w2 ⟨rfl, hb2⟩
        have HB2 : Hid (Below W0.heap.size W0 w2) := HB1.out.trans (hb2.mono HB1.out.size)
        clear hb2
        go_wp2_with fail
        go_ret2
        exact HFin.out _ HB2.out
end Go.Proofs.YtmmflekajbeamaaDoor

namespace Go.Proofs.YtmmflekajbeamaaDoor

theorem bya_get (l : List UInt8) (i : Nat) : (bya l).get! i = l.getD i 0 := by
  show l.toArray[i]! = _
  rw [List.getElem!_toArray, List.getD_eq_getElem?_getD, getElem!_def]
  cases l[i]? <;> rfl
theorem beN4 {l : List UInt8} {i v : Nat} (hv : v < 4294967296) (h : ∀ j, j < 4 → l.getD (i + j) 0 = (numB 4 v).getD j 0) : beN (bya l) i 4 = v := by
  have h0 := h 0 (by decide); have h1 := h 1 (by decide); have h2 := h 2 (by decide); have h3 := h 3 (by decide)
  simp only [numB, List.getD_cons_zero, List.getD_cons_succ, Nat.reducePow, Nat.div_one] at h0 h1 h2 h3
  simp only [beN, bya_get, h0, h1, h2, h3, UInt8.toNat_ofNat']
  omega
theorem ofNat_toNat' {n : Nat} (h : n < 256) : (UInt8.ofNat n).toNat = n := by rw [UInt8.toNat_ofNat']; omega
/-- A put that its eight bytes can tell. -/
def bdP (p : PutN) : Prop := p.kind < 256 ∧ p.d < 256 ∧ p.a < 256 ∧ p.b < 256 ∧ p.k < 4294967296
theorem okPut.bd {p : PutN} (h : okPut p) (hk : p.k < 4294967296) : bdP p := by
  obtain ⟨h1, h2, h3, h4⟩ := h
  exact ⟨by omega, by omega, by omega, by omega, hk⟩
theorem putAt_plan {ps : List PutN} {j : Nat} {p : PutN} (h : ps[j]? = some p) (hb : bdP p) : putAt (bya (planT ps)) (8 * j) = p := by
  have key : ∀ i, i < 8 → (planT ps).getD (8 * j + i) 0 = (putT p).getD i 0 := fun i hi => by
    rw [List.getD_eq_getElem?_getD, List.getD_eq_getElem?_getD, Nat.mul_comm 8 j]
    rw [show (planT ps)[j * 8 + i]? = (putT p)[i]? from flat_atG putT 8 putT_len ps j p h i hi]
  obtain ⟨b0, b1, b2, b3, b4⟩ := hb
  obtain ⟨k, d, a, b, c⟩ := p
  simp only at b0 b1 b2 b3 b4
  unfold putAt
  have e0 := key 0 (by decide); have e1 := key 1 (by decide); have e2 := key 2 (by decide); have e3 := key 3 (by decide)
  simp only [putT, List.getD_cons_zero, List.getD_cons_succ, Nat.add_zero] at e0 e1 e2 e3
  rw [bya_get, bya_get, bya_get, bya_get, e0, e1, e2, e3, ofNat_toNat' b0, ofNat_toNat' b1, ofNat_toNat' b2, ofNat_toNat' b3]
  rw [beN4 b4 (fun i hi => by
    have := key (4 + i) (by omega)
    rw [← Nat.add_assoc] at this
    rw [this]
    simp only [putT]
    rw [Nat.add_comm 4 i]
    simp only [List.getD_cons_succ])]
theorem plan_size (ps : List PutN) : (bya (planT ps)).size / 8 = ps.length := by rw [bya_size, planT_len]; omega
theorem putL_plan {ps : List PutN} (hb : ∀ p ∈ ps, bdP p) : putL (bya (planT ps)) ((bya (planT ps)).size / 8) = ps := by
  rw [plan_size]
  apply List.ext_getElem?
  intro j
  unfold putL
  rw [List.getElem?_map]
  by_cases hj : j < ps.length
  · rw [List.getElem?_range hj, List.getElem?_eq_getElem hj]
    simp only [Option.map_some]
    rw [putAt_plan (List.getElem?_eq_getElem hj) (hb _ (List.getElem_mem _))]
  · rw [List.getElem?_eq_none (by simp; omega), List.getElem?_eq_none (by omega)]
    rfl
theorem putsOK_plan {ps : List PutN} (hb : ∀ p ∈ ps, okPut p ∧ p.k < 4294967296) (hl : ps.length ≤ 10) : putsOK (bya (planT ps)) := by
  refine ⟨by rw [bya_size, planT_len]; omega, by rw [bya_size, planT_len]; omega, fun j hj => ?_⟩
  rw [plan_size] at hj
  have hm := hb _ (List.getElem_mem hj)
  rw [putAt_plan (List.getElem?_eq_getElem hj) (hm.1.bd hm.2)]
  exact hm.1

/-! ### the block at a place -/
theorem wdAt_wds {ws : List Nat} {j : Nat} {v : Nat} (h : ws[j]? = some v) (hv : v < 4294967296) : wdAt (bya (wdsT ws)) j = v := by
  unfold wdAt
  refine beN4 hv (fun i hi => ?_)
  rw [List.getD_eq_getElem?_getD, List.getD_eq_getElem?_getD, Nat.mul_comm 4 j]
  rw [show (wdsT ws)[j * 4 + i]? = (numB 4 v)[i]? from flat_atG (numB 4) 4 (fun a => numB_len 4 a) ws j v h i hi]
theorem blkN_pl (mem : List Int) : ∀ (f p j : Nat), j + 1 < blkN mem f p → plW (mem.getD (p + j) 0) = true
  | 0, p, j, h => by simp [blkN] at h
  | f + 1, p, j, h => by
    rw [blkN] at h
    split at h
    · split at h
      · rename_i h1 h2
        cases j with
        | zero => exact h2
        | succ j =>
          have := blkN_pl mem f (p + 1) j (by omega)
          rw [show p + (j + 1) = p + 1 + j by omega]
          exact this
      · omega
    · omega
theorem blkN_in (mem : List Int) : ∀ (f p : Nat), p ≤ 128 → p + blkN mem f p ≤ 128
  | 0, p, h => by simpa [blkN] using h
  | f + 1, p, h => by
    rw [blkN]
    split
    · split
      · have := blkN_in mem f (p + 1) (by omega)
        omega
      · omega
    · omega
theorem blkN_pos (mem : List Int) (f p : Nat) (h : p < 128) : 1 ≤ blkN mem (f + 1) p := by
  rw [blkN, if_pos h]
  split <;> omega
theorem blk_size (mem : List Int) (pc : Nat) : (bya (blkTxt mem pc)).size = 4 * blkN mem 8 pc := by rw [bya_size, blkTxt, wdsT_len, blkW, List.length_map, List.length_range]
section
variable {mem : List Int} {pc : Nat}
theorem blk_wd (hm : WL 128 mem) (hp : pc < 128) {j : Nat} (hj : j < blkN mem 8 pc) : ((wdAt (bya (blkTxt mem pc)) j : Nat) : Int) = mem.getD (pc + j) 0 := by
  have he := blkN_in mem 8 pc (by omega)
  have hw := hm.2 (mem.getD (pc + j) 0) (by
    rw [List.getD_eq_getElem?_getD, List.getElem?_eq_getElem (by rw [hm.1]; omega)]
    exact List.getElem_mem _)
  unfold blkTxt
  rw [wdAt_wds (ws := blkW mem pc (blkN mem 8 pc)) (v := (mem.getD (pc + j) 0).toNat) (by
    unfold blkW
    rw [List.getElem?_map, List.getElem?_range hj]; rfl) (by omega)]
  omega
theorem blk_ok (hm : WL 128 mem) (hp : pc < 128) : blkOK (bya (blkTxt mem pc)) := by
  have hs := blk_size mem pc
  have h8 := blkN_le mem 8 pc
  have h1 : 1 ≤ blkN mem 8 pc := blkN_pos mem 7 pc hp
  refine ⟨by omega, by omega, by omega, fun j hj => ?_⟩
  rw [blk_wd hm hp (by omega)]
  exact blkN_pl mem 8 pc j (by omega)
theorem blk_pl (hm : WL 128 mem) (hp : pc < 128) {j : Nat} (hj : j < nPl (bya (blkTxt mem pc))) : j < blkN mem 8 pc ∧ plW (mem.getD (pc + j) 0) = true := by
  have hs := blk_size mem pc
  have hb := blk_ok hm hp
  have hn := nPl_le (bya (blkTxt mem pc))
  have hj' : j < blkN mem 8 pc := by omega
  have := blk_plain hb hj
  rw [blk_wd hm hp hj'] at this
  exact ⟨hj', this⟩
theorem blk_put (hm : WL 128 mem) (hp : pc < 128) {j : Nat} (hj : j < nPl (bya (blkTxt mem pc))) : (blkPuts (bya (blkTxt mem pc)))[j]? = some (putW (mem.getD (pc + j) 0)) := by
  unfold blkPuts
  rw [List.getElem?_map, List.getElem?_range hj]
  simp only [Option.map_some]
  rw [blk_wd hm hp (blk_pl hm hp hj).1]
end
/-- The machine behind k of a block's plain words. -/
def stZ (regs mem : List Int) (pc k : Nat) : List Int := mkZ (((blkPuts (bya (blkTxt mem pc))).take k).foldl (rD mem) regs) mem (((pc + k : Nat) : Int) % 128) 0
theorem rDs_WL {mem : List Int} (hm : WL 128 mem) : ∀ (ps : List PutN) {regs : List Int}, WL 8 regs → (∀ p ∈ ps, okB p) → WL 8 (ps.foldl (rD mem) regs)
  | [], _, h, _ => h
  | p :: ps, _, h, hk => rDs_WL hm ps (rD_WL h hm (hk p List.mem_cons_self)) (fun q hq => hk q (List.mem_cons_of_mem _ hq))
theorem stZ_WL {regs mem : List Int} {pc : Nat} (hr : WL 8 regs) (hm : WL 128 mem) (hp : pc < 128) (k : Nat) : WL 8 (((blkPuts (bya (blkTxt mem pc))).take k).foldl (rD mem) regs) :=
  rDs_WL hm _ hr (fun p h => blkPuts_okB (blk_ok hm hp) p (List.mem_of_mem_take h))
theorem stZ_zero {regs mem : List Int} {pc : Nat} (hp : pc < 128) : stZ regs mem pc 0 = mkZ regs mem pc 0 := by
  unfold stZ
  rw [List.take_zero, List.foldl_nil]
  congr 1
  omega
theorem stZ_step {regs mem : List Int} {pc k : Nat} (hr : WL 8 regs) (hm : WL 128 mem) (hp : pc < 128) (hk : k < nPl (bya (blkTxt mem pc))) : stp (stZ regs mem pc k) = (stZ regs mem pc (k + 1), 0) := by
  obtain ⟨h1, h2⟩ := blk_pl hm hp hk
  have he := blkN_in mem 8 pc (by omega)
  have e : (((pc + k : Nat) : Int) % 128) = ((pc + k : Nat) : Int) := by omega
  unfold stZ
  rw [e, stp_plain (stZ_WL hr hm hp k) hm (by omega) h2, foldl_take_succ _ _ _ _ _ (blk_put hm hp hk)]
  congr 2
theorem stZ_stB {regs mem : List Int} {pc : Nat} (hr : WL 8 regs) (hm : WL 128 mem) (hp : pc < 128) (k : Nat) : stB (stZ regs mem pc k) = true :=
  mkZ_stB (stZ_WL hr hm hp k) hm (by omega) (by omega) (by decide) (by decide)
theorem stZ_len {regs mem : List Int} {pc : Nat} (hr : WL 8 regs) (hm : WL 128 mem) (hp : pc < 128) (k : Nat) : (stZ regs mem pc k).length = 138 := mkZ_len (stZ_WL hr hm hp k).1 hm.1
/-- A plan that comes to the same does what the block's plain words do. -/
theorem sound_do {regs mem : List Int} {pc : Nat} (hr : WL 8 regs) (hm : WL 128 mem) (hp : pc < 128) {qs : List PutN} (hq : ∀ p ∈ qs, okPut p ∧ p.k < 4294967296) (h : (comeS (blkPuts (bya (blkTxt mem pc)))).take 8 = (comeS qs).take 8) :
    (doL mem qs (begD regs)).take 8 = ((blkPuts (bya (blkTxt mem pc))).take (nPl (bya (blkTxt mem pc)))).foldl (rD mem) regs := by
  have hk := blkPuts_okB (blk_ok hm hp)
  rw [← same_do (fun p hp' => ⟨(hk p hp').2.2.2.2.2.2, (hk p hp').2.2.2.2.2.1⟩) hq h mem hr.1, doL_regs hr.1 hk, List.take_of_length_le (by rw [nPl_len]; exact Nat.le_refl _)]
theorem own_bd {s : ByteArray} (h : blkOK s) : ∀ p ∈ ownP s, okPut p ∧ p.k < 4294967296 := fun p hp => by
  have := (ownP_ok h).1 p hp
  exact ⟨this.2.2.2.2.2.2, this.2.2.2.2.2.1⟩
end Go.Proofs.YtmmflekajbeamaaDoor
