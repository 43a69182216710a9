/-
  Translates: the block at a place of the memory, the document's answer (cribref.BlockAt, Block).
  Translates: Block through the door, and the law of it (crib.Block, criblaw.blocks).
  Sound: the document's own block (known).
  Translates: slices.Backward over puts: what its value hands out.
-/
import Derived.Test.YtmmflekajbeamaaDoorS19
import Derived.Test.YtmmflekajbeamaaDoorS26
import Derived.Test.YtmmflekajbeamaaDoorS28
import Derived.Test.YtmmflekajbeamaaDoorS17
import Derived.RangeFuncNested
import Derived.RangeFuncBound
import Derived.RangeFuncCalls
import Derived.RangeFuncLeaves
import Derived.Shelf.Abstract
import Derived.Shelf.RegionOpen
import Derived.WalkKit
import Derived.OwnWalkIn
import Derived.TacticsInMore
import Derived.LoopNIn
import Derived.LoopIn
namespace Go.Proofs.YtmmflekajbeamaaDoor
open Go.RowKit

set_option maxRecDepth 100000 in
set_option maxHeartbeats 2000000 in
theorem refBlockAt_any (z mem : List Int) (pc : Nat) (w : World) (hl : z.length = 138) (hz : ∀ i, i < 128 → gz z (8 + i) = mem.getD i 0) (hm : ∀ i, 0 ≤ mem.getD i 0 ∧ mem.getD i 0 < 4294967296) (hpc : pc < 128) :
    Calls Tryd.prog 91 #[.agg (S z), .int .i64 (pc : Int)] w fun e' w' => e' = .returned (.string (bya (blkTxt mem pc))) ∧ Below w.heap.size w w' := by
  have hr : RowI (w.alloc (.cells (S z) 34)) w.heap.size 34 z := _root_.Go.heap_alloc_new w _
  have hb1 : Below w.heap.size w (w.alloc (.cells (S z) 34)) := (Below.refl w.heap.size w).alloc (Nat.le_refl _) _
  have HR := hide hr; have HB := hide hb1; have HM := hide hm; have HZ := hide hz
  have hpc' : (pc : Int) < 128 := by omega
  clear hr hb1 hm hz
  go_enter Tryd.func91, Tryd.ntmps91
  go_wp2_with fail
  go_loopw [5, 6] (fun t i wr => ∃ k : Nat, k ≤ 8 ∧ pc + k ≤ 128 ∧ i = .int .i64 k ∧ t = .string (bya (wdsT (blkW mem pc k))) ∧ Hid ((∀ q, q < k → plW (mem.getD (pc + q) 0) = true) ∧ RowI wr w.heap.size 34 z ∧ Below w.heap.size w wr)) (fun _ i _ => 8 - (intOf i).toNat)
  case atStart => exact ⟨0, Nat.zero_le _, by omega, rfl, rfl, fun q hq => by omega, HR.out, HB.out⟩
  case round =>
    obtain ⟨k, hk, hpk, rfl, rfl, HR2⟩ := hrel
    obtain ⟨hpl, hrow, hbl⟩ := HR2.out
    by_cases h8 : k < 8
    · have h8' : (k : Int) < 8 := by omega
      by_cases hlt : pc + k < 128
      · have hlt' : (pc : Int) + (k : Int) < 128 := by omega
        have hc := HM.out (pc + k)
        have hx0 : mem.getD (pc + k) 0 = (((mem.getD (pc + k) 0).toNat : Nat) : Int) := (Int.toNat_of_nonneg hc.1).symm
        have cm := hrow.cell (8 + (pc + k)) (by omega)
        rw [HZ.out (pc + k) hlt, hx0] at cm
        have HX : Hid (bya (wdsT (blkW mem pc k)) ++ bya (numB 4 (mem.getD (pc + k) 0).toNat) = bya (wdsT (blkW mem pc (k + 1)))) := by unfold Hid; rw [blkW_succ, wdsT_snoc, bya_app]
        have HPl := hide (fun w' => plain_any (mem.getD (pc + k) 0) w' hc.1 hc.2)
        have hplw : plB (fop (mem.getD (pc + k) 0)) (fa (mem.getD (pc + k) 0)) (fb (mem.getD (pc + k) 0)) (fc (mem.getD (pc + k) 0)) = plW (mem.getD (pc + k) 0) := rfl
        rw [hplw, hx0] at HPl
        have HNm := hide (fun w' => number_ref (mem.getD (pc + k) 0).toNat 4 w' (by decide) (by omega))
        have z1 : (bya (wdsT (blkW mem pc k))).size ≤ 64 := by rw [bya_size, wdsT_len, blkW_len]; omega
        have z2 : (bya (numB 4 (mem.getD (pc + k) 0).toNat)).size ≤ 64 := by rw [bya_size, numB_len]; decide
        have HEnd : Hid (plW (mem.getD (pc + k) 0) = false → blkTxt mem pc = wdsT (blkW mem pc (k + 1))) := fun hp => by
          unfold blkTxt
          rw [blkN_end mem pc (k + 1) (by omega) (by omega) (fun j hj => hpl j (by omega)) (by omega) (.inr (.inr (by rw [Nat.add_sub_cancel, hp]; decide)))]
        have HNx : Hid (plW (mem.getD (pc + k) 0) = true → ∀ q, q < k + 1 → plW (mem.getD (pc + q) 0) = true) := fun hp q hq => by
          by_cases hqk : q < k
          · exact hpl q hqk
          · obtain rfl : q = k := by omega
            exact hp
        rw [hx0] at HEnd HNx
        generalize bya (wdsT (blkW mem pc k)) = D1 at *
        generalize (mem.getD (pc + k) 0).toNat = x at *
        generalize bya (numB 4 x) = D2 at *
        have HRw := hide hrow; have HBl := hide hbl
        have hwz : w.heap.size < wr.heap.size := hrow.lt
        clear hc hx0 hplw hpl hrow hbl
        cases hq : plW (x : Int)
        · rw [hq] at HPl HEnd
          go_wp2_with fail
          refine (unhide HNm _).mono ?_
          rintro e w1 ⟨rfl, hb1⟩
          have HB1 : Hid (Below w.heap.size w w1) := HBl.out.trans (hb1.mono (by omega))
          clear hb1
          go_wp2_with fail
          refine (unhide HPl _).mono ?_
          rintro e w' ⟨rfl, hw⟩
          obtain rfl := hw.symm
          go_wp2_with fail
          go_ret
          refine ⟨?_, HB1.out⟩
          rw [HEnd.out (by first | trivial | rfl), ← HX.out]; rfl
        · rw [hq] at HPl HNx
          go_wp2_with fail
          refine (unhide HNm _).mono ?_
          rintro e w1 ⟨rfl, hb1⟩
          have HB1 : Hid (Below w.heap.size w w1) := HBl.out.trans (hb1.mono (by omega))
          have HR1 : Hid (RowI w1 w.heap.size 34 z) := HRw.out.keep (hb1.block _ hwz)
          clear hb1
          go_wp2_with fail
          refine (unhide HPl _).mono ?_
          rintro e w' ⟨rfl, hw⟩
          obtain rfl := hw.symm
          go_wp2_with fail
          refine ⟨⟨k + 1, by omega, by omega, by go_num, ?_, HNx.out (by first | trivial | rfl), HR1.out, HB1.out⟩, by simp [intOf]; omega⟩
          rw [HX.out]
      · have hlt' : ¬ (pc : Int) + (k : Int) < 128 := by omega
        have hlt'' : decide ((pc : Int) + (k : Int) < 128) = false := decide_eq_false hlt'
        have HEnd : Hid (blkTxt mem pc = wdsT (blkW mem pc k)) := by
          unfold Hid blkTxt
          rw [blkN_end mem pc k (by omega) hk (fun j hj => hpl j (by omega)) (by omega) (.inl (by omega))]
        have HBl := hide hbl
        clear hpl hrow hbl
        go_wp2_with fail
        go_ret
        refine ⟨?_, HBl.out⟩
        rw [HEnd.out]; rfl
    · have h8' : ¬ (k : Int) < 8 := by omega
      have HEnd : Hid (blkTxt mem pc = wdsT (blkW mem pc k)) := by
        unfold Hid blkTxt
        rw [blkN_end mem pc k (by omega) hk (fun j hj => hpl j (by omega)) (by omega) (.inr (.inl (by omega)))]
      have HBl := hide hbl
      clear hpl hrow hbl
      go_wp2_with fail
      go_ret
      refine ⟨?_, HBl.out⟩
      rw [HEnd.out]; rfl

theorem stB_mp {mem : List Int} {pc : Int} (hm : mem.length = 128) : stB (mkZ (List.replicate 8 0) mem pc 0) = true ↔ inM mem pc := by
  have hr : (List.replicate 8 (0 : Int)).length = 8 := by simp
  unfold stB inM
  rw [Bool.and_eq_true, Bool.and_eq_true]
  have e1 : regsB (mkZ (List.replicate 8 0) mem pc 0) = true := by
    unfold regsB
    rw [List.all_eq_true]
    intro i hi
    rw [mkZ_reg hr (List.mem_range.1 hi), List.getD_eq_getElem?_getD, List.getElem?_replicate, if_pos (List.mem_range.1 hi)]
    rfl
  have e2 : memB (mkZ (List.replicate 8 0) mem pc 0) = allW (gz mem) 128 := by
    unfold memB allW
    rw [Bool.eq_iff_iff, List.all_eq_true, List.all_eq_true]
    constructor
    · intro h i hi
      have := h i hi
      rw [mkZ_mem hr hm (List.mem_range.1 hi)] at this
      exact this
    · intro h i hi
      rw [mkZ_mem hr hm (List.mem_range.1 hi)]
      exact h i hi
  have e3 : pcB (mkZ (List.replicate 8 0) mem pc 0) = true ↔ 0 ≤ pc ∧ pc < 128 := by
    unfold pcB
    rw [mkZ_pc hr hm, mkZ_st hr hm]
    simp
  rw [e1, e2, e3]
  simp

set_option maxRecDepth 100000 in
set_option maxHeartbeats 2000000 in
theorem refBlock_any (mem : List Int) (pc : Int) (w : World) (hl : mem.length = 128) :
    Calls Tryd.prog 55 #[.agg (S mem), .int .i64 pc] w (BlkPost mem pc w) := by
  have hrl : (List.replicate 8 (0 : Int)).length = 8 := by simp
  have hst := stB_mp (pc := pc) hl
  have hZm : ∀ i, i < 128 → gz (mkZ (List.replicate 8 0) mem pc 0) (8 + i) = mem.getD i 0 := fun i hi => mkZ_mem hrl hl hi
  have hZl : (mkZ (List.replicate 8 0) mem pc 0).length = 138 := mkZ_len hrl hl
  have HBd := hide (build_mp mem pc hl)
  generalize mkZ (List.replicate 8 0) mem pc 0 = z at *
  obtain ⟨W1, hW1⟩ : ∃ W1, W1 = w.alloc (.cells (S mem) 32) := ⟨_, rfl⟩
  have HW := hide hW1
  have z34 := zero34
  have hz1 : W1.heap.size = w.heap.size + 1 := by rw [hW1, size_alloc1]
  have r0 : RowI W1 w.heap.size 32 mem := by unfold RowI; rw [hW1, _root_.Go.heap_alloc_new]
  have r1 : RowI (W1.alloc (.cells (S zeroZ) 34)) (w.heap.size + 1) 34 zeroZ := by
    unfold RowI
    have := _root_.Go.heap_alloc_new W1 (.cells (S zeroZ) 34)
    rw [hz1] at this
    exact this
  obtain ⟨W2, hW2⟩ : ∃ W2, W2 = (W1.alloc (.cells (S zeroZ) 34)).setRow (w.heap.size + 1) (S z) := ⟨_, rfl⟩
  have r2 : RowI W2 (w.heap.size + 1) 34 z := by rw [hW2]; exact r1.setRow z
  have hb1 : Below w.heap.size w W1 := by rw [hW1]; exact (Below.refl _ _).alloc (Nat.le_refl _) _
  have hb2 : Below w.heap.size w W2 := by rw [hW2]; exact below_setRow (hb1.alloc (by omega) _) (by omega) _
  have HW2 := hide hW2; have HR0 := hide r0; have HR1 := hide r1; have HR2 := hide r2; have HB2 := hide hb2
  have HRt := hide (right_any z W2 hZl)
  have hz2 : w.heap.size + 1 < W2.heap.size := r2.lt
  clear r0 r1 r2 hb1 hb2 hW1 hW2
  by_cases hok : inM mem pc
  · rw [hst.2 hok] at HRt
    have HOK := hide hok
    obtain ⟨n, rfl⟩ : ∃ n : Nat, pc = (n : Int) := ⟨pc.toNat, by have := hok.2.1; omega⟩
    have HAt := hide (fun w' => refBlockAt_any z mem n w' hZl hZm (inM_bd hl hok.1) (by have := hok.2.2; omega))
    have HFin : Hid (∀ w', Below W2.heap.size W2 w' → BlkPost mem (n : Int) w (.returned (.tuple #[.string (bya (blkTxt mem n)), .int .i64 0])) w') := fun w' hb => ⟨HB2.out.trans (hb.mono HB2.out.size), .inl ⟨HOK.out, by rw [Int.toNat_natCast]⟩⟩
    clear hst hok hZm
    go_enter Tryd.func55, Tryd.ntmps55
    go_wp2_with (first | (refine wpList_loadR rfl Tryd.underlying32 size128 rfl _ rfl w.heap.size rfl (by rw [← HW.out]; exact HR0.out.isRow 128 hl) (S mem) (by rw [← HW.out]; exact HR0.out.rowD) ?_) | (refine wpList_buildR rfl 34 1 2 _ _ rfl (.agg (S mem)) (.int .i64 (n : Int)) _ rfl rfl (HBd.out _) ?_) | (refine wpList_storeR size34 rfl _ _ rfl (w.heap.size + 1) rfl z rfl hZl (by rw [← HW.out]; exact HR1.out.isRow 138 (by simp [zeroZ])) W2 (by rw [← HW.out]; exact HW2.out.symm) ?_) | (refine wpList_loadR rfl Tryd.underlying34 size34 rfl _ rfl (w.heap.size + 1) rfl (HR2.out.isRow 138 hZl) (S z) HR2.out.rowD ?_))
    refine (unhide HRt).mono ?_
    rintro e w1 ⟨rfl, hb1⟩
    have HB1 := hide hb1
    have HR3 := hide (HR2.out.keep (hb1.block _ hz2))
    clear hb1
    go_wp2_with (refine wpList_loadR rfl Tryd.underlying34 size34 rfl _ rfl (w.heap.size + 1) rfl (HR3.out.isRow 138 hZl) (S z) HR3.out.rowD ?_)
    refine (unhide HAt _).mono ?_
    rintro e w2 ⟨rfl, hb2⟩
    have HB3 : Hid (Below W2.heap.size W2 w2) := HB1.out.trans (hb2.mono HB1.out.size)
    clear hb2
    go_wp2_with fail
    go_ret2
    exact HFin.out _ HB3.out
  · have hf : stB z = false := by
      cases hq : stB z
      · rfl
      · exact absurd (hst.1 hq) hok
    rw [hf] at HRt
    have HOK := hide hok
    have HFin : Hid (∀ w', Below W2.heap.size W2 w' → BlkPost mem pc w (.returned (.tuple #[.string (bya []), .int .i64 8])) w') := fun w' hb => ⟨HB2.out.trans (hb.mono HB2.out.size), .inr ⟨HOK.out, rfl⟩⟩
    clear hst hok hZm hf
    go_enter Tryd.func55, Tryd.ntmps55
    go_wp2_with (first | (refine wpList_loadR rfl Tryd.underlying32 size128 rfl _ rfl w.heap.size rfl (by rw [← HW.out]; exact HR0.out.isRow 128 hl) (S mem) (by rw [← HW.out]; exact HR0.out.rowD) ?_) | (refine wpList_buildR rfl 34 1 2 _ _ rfl (.agg (S mem)) (.int .i64 pc) _ rfl rfl (HBd.out _) ?_) | (refine wpList_storeR size34 rfl _ _ rfl (w.heap.size + 1) rfl z rfl hZl (by rw [← HW.out]; exact HR1.out.isRow 138 (by simp [zeroZ])) W2 (by rw [← HW.out]; exact HW2.out.symm) ?_) | (refine wpList_loadR rfl Tryd.underlying34 size34 rfl _ rfl (w.heap.size + 1) rfl (HR2.out.isRow 138 hZl) (S z) HR2.out.rowD ?_))
    refine (unhide HRt).mono ?_
    rintro e w1 ⟨rfl, hb1⟩
    have HB1 := hide hb1
    clear hb1
    go_wp2_with fail
    go_ret2
    exact HFin.out _ HB1.out
end Go.Proofs.YtmmflekajbeamaaDoor

namespace Go.Proofs.YtmmflekajbeamaaDoor
open Go.RowKit

theorem BlkPost.form {mem : List Int} {pc : Int} {w w' : World} {e : Ending} (h : BlkPost mem pc w e w') : ∃ D n, e = .returned (.tuple #[.string D, .int .i64 n]) := by
  obtain ⟨_, ⟨_, rfl⟩ | ⟨_, rfl⟩⟩ := h
  · exact ⟨_, _, rfl⟩
  · exact ⟨_, _, rfl⟩
theorem BlkPost.one {mem : List Int} {pc : Int} {w1 w2 w1' w2' : World} {e1 e2 : Ending} (h1 : BlkPost mem pc w1 e1 w1') (h2 : BlkPost mem pc w2 e2 w2') : e1 = e2 := by
  obtain ⟨_, ⟨a, rfl⟩ | ⟨a, rfl⟩⟩ := h1 <;> obtain ⟨_, ⟨c, rfl⟩ | ⟨c, rfl⟩⟩ := h2
  all_goals first | rfl | exact absurd a c | exact absurd c a

set_option maxRecDepth 100000 in
set_option maxHeartbeats 2000000 in
theorem cribBlock_any (mem : List Int) (pc : Int) (w : World) (ht : Tab w) (hl : mem.length = 128) :
    Calls Tryd.prog 25 #[.agg (S mem), .int .i64 pc] w (BlkPost mem pc w) := by
  obtain ⟨W0, hW0⟩ : ∃ W0, W0 = w.alloc (.cells (S mem) 32) := ⟨_, rfl⟩
  have HW := hide hW0
  have hb0 : Below w.heap.size w W0 := by rw [hW0]; exact (Below.refl _ _).alloc (Nat.le_refl _) _
  have r0 : RowI W0 w.heap.size 32 mem := by unfold RowI; rw [hW0, _root_.Go.heap_alloc_new]
  have HR0 := hide r0; have HB0 := hide hb0
  have HC := hide (block_any mem pc W0 (ht.below ht.pos hb0) hl)
  clear r0 hb0 hW0
  go_enter Tryd.func25, Tryd.ntmps25
  go_wp2_with (refine wpList_loadR rfl Tryd.underlying32 size128 rfl _ rfl w.heap.size rfl (by rw [← HW.out]; exact HR0.out.isRow 128 hl) (S mem) (by rw [← HW.out]; exact HR0.out.rowD) ?_)
  rw [← HW.out]
  refine (unhide HC).mono ?_
  intro e w1 hpost
  obtain ⟨D, n, rfl⟩ := hpost.form
  have HP := hide (hpost.up HB0.out)
  clear hpost
  go_wp2_with fail
  go_ret2
  exact HP.out

set_option maxRecDepth 100000 in
set_option maxHeartbeats 2000000 in
theorem blocks_any (mem : List Int) (pc : Int) (w : World) (ht : Tab w) (hl : mem.length = 128) :
    Calls Tryd.prog 21 #[.agg (S mem), .int .i64 pc] w fun e' w' => e' = .returned (.bool true) ∧ Below w.heap.size w w' := by
  obtain ⟨W0, hW0⟩ : ∃ W0, W0 = w.alloc (.cells (S mem) 32) := ⟨_, rfl⟩
  have HW := hide hW0
  have hb0 : Below w.heap.size w W0 := by rw [hW0]; exact (Below.refl _ _).alloc (Nat.le_refl _) _
  have r0 : RowI W0 w.heap.size 32 mem := by unfold RowI; rw [hW0, _root_.Go.heap_alloc_new]
  have HR0 := hide r0; have HB0 := hide hb0
  have hlt0 := r0.lt
  have H1 := hide (cribBlock_any mem pc W0 (ht.below ht.pos hb0) hl)
  have H2 := hide (fun w' => refBlock_any mem pc w' hl)
  clear r0 hb0 hW0 ht
  go_enter Tryd.func21, Tryd.ntmps21
  go_wp2_with (refine wpList_loadR rfl Tryd.underlying32 size128 rfl _ rfl w.heap.size rfl (by rw [← HW.out]; exact HR0.out.isRow 128 hl) (S mem) (by rw [← HW.out]; exact HR0.out.rowD) ?_)
  rw [← HW.out]
  refine (unhide H1).mono ?_
  intro e w1 hpost
  obtain ⟨D, n, rfl⟩ := hpost.form
  have HP1 := hide hpost
  have HB1 : Hid (Below w.heap.size w w1) := HB0.out.trans (hpost.1.mono HB0.out.size)
  have HR1 := hide (HR0.out.keep (hpost.1.block _ hlt0))
  clear hpost H1
  go_wp2_with (refine wpList_loadR rfl Tryd.underlying32 size128 rfl _ rfl w.heap.size rfl (HR1.out.isRow 128 hl) (S mem) HR1.out.rowD ?_)
  refine (unhide H2 _).mono ?_
  intro e w2 hpost
  have he := BlkPost.one HP1.out hpost
  subst he
  have HB2 : Hid (Below w.heap.size w w2) := HB1.out.trans (hpost.1.mono HB1.out.size)
  have HNm := hide (fun w' => num_any n w')
  clear hpost H2 HP1
  go_wp2_with fail
  refine (unhide HNm _).mono ?_
  rintro e w' ⟨rfl, hw'⟩
  obtain rfl := hw'.symm
  go_wp2_with fail
  go_ret
  exact ⟨ret_bool (by simp), HB2.out⟩
end Go.Proofs.YtmmflekajbeamaaDoor

namespace Go.Proofs.YtmmflekajbeamaaDoor
open Go.RowKit

def knM : List Int := (List.replicate 128 (0 : Int)).set 0 17825799
def knZ0 : List Int := zeroZ.set 8 17825799
theorem knZ0_mk : knZ0 = mkZ (List.replicate 8 0) knM (0 : Nat) 0 := by decide
theorem knR_WL : WL 8 (List.replicate 8 (0 : Int)) := ⟨by simp, fun x hx => by rw [List.eq_of_mem_replicate hx]; decide⟩
theorem knM_WL : WL 128 knM := ⟨by simp [knM], fun x hx => by
  unfold knM at hx
  rcases List.mem_or_eq_of_mem_set hx with h | h
  · rw [List.eq_of_mem_replicate h]; decide
  · rw [h]; decide⟩
theorem knM_txt : blkTxt knM 0 = numB 4 17825799 ++ numB 4 0 := by decide
theorem kn_step : stp knZ0 = (mkZ ((List.replicate 8 (0 : Int)).set 1 7) knM 1 0, 0) := by
  rw [knZ0_mk, stp_plain knR_WL knM_WL (by decide) (by decide)]
  decide
set_option maxRecDepth 100000 in
set_option maxHeartbeats 4000000 in
theorem known_true (w : World) (ht : Tab w) :
    Calls Tryd.prog 23 #[] w fun e' w' => e' = .returned (.bool true) ∧ Below w.heap.size w w' := by
  have zz := zero34
  have hin : inM knM 0 := ⟨WL_allW knM_WL, by decide, by decide⟩
  have HBk := hide (fun w' (hb : Below w.heap.size w w') => cribBlock_any knM 0 w' (ht.below ht.pos hb) knM_WL.1)
  have HSt := hide (fun w' (hb : Below w.heap.size w w') => cribStep_any knZ0 w' (by simp [knZ0, zeroZ]) (ht.below ht.pos hb))
  rw [kn_step] at HSt
  simp only at HSt
  have HN1 := hide (fun w' => keepNumber_any 17825799 4 w' (by decide) (by decide))
  have HN2 := hide (fun w' => keepNumber_any 0 4 w' (by decide) (by decide))
  have hS : (S zeroZ).setIfInBounds 8 (Value.int .i64 17825799) = S knZ0 := by
    unfold S knZ0
    rw [List.setIfInBounds_toArray, List.map_set]
  obtain ⟨W1, hW1⟩ : ∃ W1, W1 = w.alloc (.cells (S knZ0) 34) := ⟨_, rfl⟩
  have hW1' : w.alloc (.cells ((S zeroZ).setIfInBounds 8 (Value.int .i64 17825799)) 34) = W1 := by rw [hS, hW1]
  have r1 : RowI W1 w.heap.size 34 knZ0 := by unfold RowI; rw [hW1, _root_.Go.heap_alloc_new]
  have b1 : Below w.heap.size w W1 := by rw [hW1]; exact (Below.refl _ _).alloc (Nat.le_refl _) _
  have hl : knZ0.length = 138 := by simp [knZ0, zeroZ]
  have g1 := range_row r1 8 128 (by omega)
  rw [show (knZ0.drop 8).take 128 = knM by rw [knZ0_mk]; exact mkZ_mems _ _ (by simp) knM_WL.1] at g1
  have s128 : (Tryd.prog.info? 32).map (·.size) = some (knM.map (Value.int .i64)).length := by rw [size128, List.length_map, knM_WL.1]
  have hz1 := r1.lt
  have HW := hide hW1'; have HR1 := hide r1; have HB1 := hide b1; have HG1 := hide g1; have HS128 := hide s128
  obtain ⟨Z1, hZ1⟩ : ∃ Z1, Z1 = mkZ ((List.replicate 8 (0 : Int)).set 1 7) knM 1 0 := ⟨_, rfl⟩
  rw [← hZ1] at HSt
  have hlZ : Z1.length = 138 := by rw [hZ1]; simp [mkZ, knM]
  have HZ : Hid (gz Z1 1 = 7 ∧ gz Z1 136 = 1 ∧ gz Z1 137 = 0) := by unfold Hid; rw [hZ1]; decide
  have HTx : Hid (bya (blkTxt knM 0) = bya (numB 4 17825799) ++ bya (numB 4 0)) := by unfold Hid; rw [knM_txt, bya_app]
  have z1 : (bya (numB 4 17825799)).size ≤ 8 := by rw [bya_size, numB_len]; decide
  have z2 : (bya (numB 4 0)).size ≤ 8 := by rw [bya_size, numB_len]; decide
  have HIn := hide hin
  generalize bya (numB 4 17825799) = D1 at *
  generalize bya (numB 4 0) = D2 at *
  clear ht hW1 hW1' r1 b1 g1 s128 hS hin hZ1
  go_enter Tryd.func23, Tryd.ntmps23
  go_wp2_with (refine wpList_load_midZ rfl 32 _ rfl w.heap.size 8 rfl knM _ (by rw [HW.out]; exact HG1.out) Tryd.underlying32 rfl HS128.out ?_)
  rw [HW.out]
  refine (unhide HBk _ HB1.out).mono ?_
  rintro e w2 ⟨hb2, ⟨_, rfl⟩ | ⟨hno, _⟩⟩
  rotate_left
  · exact absurd HIn.out hno
  have r2 := HR1.out.keep (hb2.block _ hz1)
  have rI := r2.isRow 138 hl
  have rD' := r2.rowD
  have HB2 : Hid (Below w.heap.size w w2) := HB1.out.trans (hb2.mono (by omega))
  have hz2 := hb2.size
  clear hb2 HBk r2
  go_wp2_with (refine wpList_load_S rfl _ rfl w.heap.size rfl rI _ rD' ?_)
  refine (unhide HSt _ HB2.out).mono ?_
  rintro e w3 ⟨rfl, hb3⟩
  have hz3 := hb3.size
  have HB3 : Hid (Below w.heap.size w (w3.alloc (.cells (S Z1) 34))) := (HB2.out.trans (hb3.mono (by omega))).alloc (by omega) _
  have r3 : RowI (w3.alloc (.cells (S Z1) 34)) w3.heap.size 34 Z1 := _root_.Go.heap_alloc_new w3 _
  have HR3 := hide r3
  clear hb3 rI rD' r3 HSt
  go_wp2_with (refine wpList_store_S rfl _ _ rfl w3.heap.size rfl Z1 rfl hlZ (by rw [isRowB_alloc_at _ _ _ _ _ rfl]; simp [S_size, zeroZ]) _ (setRow_alloc_at _ _ _ _ _ rfl) ?_)
  refine (unhide HN1 _).mono ?_
  rintro e w4 ⟨rfl, hb4⟩
  rw [HTx.out]
  have hz4 := hb4.size
  rw [size_alloc1] at hz4
  have HB4 : Hid (Below w.heap.size w w4) := HB3.out.trans (hb4.mono (by rw [size_alloc1]; omega))
  have HR4 := hide (HR3.out.keep (hb4.block _ (by rw [size_alloc1]; omega)))
  clear hb4
  go_wp2_with fail
  refine (unhide HN2 _).mono ?_
  rintro e w5 ⟨rfl, hb5⟩
  have r5 := HR4.out.keep (hb5.block _ (by omega))
  have HB5 : Hid (Below w.heap.size w w5) := HB4.out.trans (hb5.mono (by omega))
  have c1 := r5.cell 1 (by omega)
  have c6 := r5.cell 136 (by omega)
  have c7 := r5.cell 137 (by omega)
  rw [HZ.out.1] at c1
  rw [HZ.out.2.1] at c6
  rw [HZ.out.2.2] at c7
  clear hb5 r5
  go_wp2_with fail
  go_ret
  exact ⟨rfl, HB5.out⟩
end Go.Proofs.YtmmflekajbeamaaDoor

namespace Go.Proofs.YtmmflekajbeamaaDoor
open Go.RowKit Go.Shelf
attribute [local go_sem] Oper.semAt_some

def dPut : PutN := ⟨1, 0, 0, 0, 0⟩
theorem dPut_ok : okB dPut := ⟨by decide, by decide, by decide, by decide, by decide, by decide, ⟨by decide, by decide, by decide, .inl ⟨rfl, rfl, rfl⟩⟩⟩
/-- What comes in a round: a place and a put. -/
abbrev BkX := { x : Nat × PutN // okB x.2 }
def okBD (p : PutN) : Decidable (okB p) := by
  have h := okDec p
  unfold okB
  exact inferInstance
def bkF (ps : List PutN) (i : Nat) : BkX := @dite BkX (okB (ps.getD i dPut)) (okBD _) (fun h => ⟨(i, ps.getD i dPut), h⟩) (fun _ => ⟨(i, dPut), dPut_ok⟩)
theorem bkF_eq {ps : List PutN} (hw : ∀ p ∈ ps, okB p) {i : Nat} (hi : i < ps.length) : (bkF ps i).1 = (i, ps[i]) := by
  have e : ps.getD i dPut = ps[i] := by rw [List.getD_eq_getElem?_getD, List.getElem?_eq_getElem hi]; rfl
  have h : okB (ps.getD i dPut) := by rw [e]; exact hw _ (List.getElem_mem _)
  unfold bkF
  rw [dif_pos h]
  show (i, ps.getD i dPut) = _
  rw [e]
/-- What has come when k rounds are over. -/
def bkU (ps : List PutN) (k : Nat) : List BkX := (List.range k).map fun j => bkF ps (ps.length - 1 - j)
theorem bkU_succ (ps : List PutN) (k : Nat) : bkU ps (k + 1) = bkU ps k ++ [bkF ps (ps.length - 1 - k)] := by simp [bkU, List.range_succ]
theorem bkU_len (ps : List PutN) (k : Nat) : (bkU ps k).length = k := by simp [bkU]

/-- What a round keeps: what lay below n₁, and the block Bs. -/
def BKp (n₁ Bs : Nat) (W W' : World) : Prop := Below n₁ W W' ∧ W'.heap[Bs]? = W.heap[Bs]?
theorem BKp.refl (n₁ Bs : Nat) (W : World) : BKp n₁ Bs W W := ⟨Below.refl _ _, rfl⟩
theorem BKp.trans {n₁ Bs : Nat} {A B C : World} (h : BKp n₁ Bs A B) (h' : BKp n₁ Bs B C) : BKp n₁ Bs A C := ⟨h.1.trans h'.1, h'.2.trans h.2⟩
set_option maxRecDepth 100000 in
set_option maxHeartbeats 2000000 in
theorem backward1_in (F : Fence) (n : Nat) (hf : F.fn 160) (hro : F.round = none) (hn : 1 ≤ n) (l Bs n₀ g cap : Nat) (ps : List PutN) (hw : ∀ p ∈ ps, okB p) (hl : ps.length ≤ 8) (hb : g < n₀) (J Jx : List BkX → World → Prop)
    (hY : ∀ pre x W, J pre W → pre.length < ps.length → YieldAt F (n - 1) Tryd.prog l #[.int .i64 (x.1.1 : Int), .agg (putV x.1.2)] W fun e W' =>
      (e = .returned (.bool true) ∧ J (pre ++ [x]) W' ∧ BKp n₀ Bs W W') ∨ (e = .returned (.bool false) ∧ Jx (pre ++ [x]) W'))
    (W : World) (hc0 : W.cell? ⟨Bs, 0, none⟩ = some (.slice (some ⟨g, 0, none⟩) ps.length cap)) (hc : ∀ j p, ps[j]? = some p → W.rangeAt g (j * 5) (putV p).toList) (h0 : J [] W) :
    CallsIn F n Tryd.prog 160 #[.func (.yield l) #[] #[], .pointer (some ⟨Bs, 0, none⟩)] W fun e W' => (∃ v, e = .returned v) ∧
      ((∃ ys, ys = bkU ps ps.length ∧ J ys W') ∨ (∃ pre, (∃ k, k ≤ ps.length ∧ pre = bkU ps k) ∧ Jx pre W')) := by
  refine callsIn_of_wp Tryd.func160 rfl hf ?_ hro
  simp only [Tryd.ntmps160, List.size_toArray, List.length_cons, List.length_nil, Nat.reduceAdd, Nat.reduceSub, Array.replicate_succ, Array.replicate_zero, List.push_toArray, List.append_toArray, List.nil_append, List.cons_append]
  have hl' : (ps.length : Int) ≤ 8 := by omega
  gi_wp2
  gi_loopw [3] (fun i wr => ∃ k : Nat, k ≤ ps.length ∧ i = .int .i64 ((ps.length : Int) - 1 - k) ∧ J (bkU ps k) wr ∧ BKp n₀ Bs W wr)
    (fun i _ => (intOf i + 1).toNat)
  case atStart => exact ⟨0, Nat.zero_le _, by simp, h0, BKp.refl _ _ _⟩
  case round =>
    obtain ⟨k, hk, rfl, hJs, hnx⟩ := hrel
    have hcb := (cell_heap 0 hnx.2).trans hc0
    by_cases hlt : k < ps.length
    · obtain ⟨i, hi⟩ : ∃ i, ps.length - 1 - k = i := ⟨_, rfl⟩
      have hii : (ps.length : Int) - 1 - (k : Int) = (i : Int) := by omega
      have hil : i < ps.length := by omega
      have hil' : (i : Int) < (ps.length : Int) := by omega
      obtain ⟨fn, tmps, assign, body, hy, hR⟩ := hY _ (bkF ps i) wr hJs (by rw [bkU_len]; exact hlt)
      rw [bkF_eq hw hil] at hy
      have hx : ps[i]? = some ps[i] := List.getElem?_eq_getElem hil
      have hcr := hc i ps[i] hx
      have cx : ∀ j v, (putV ps[i]).toList[j]? = some v → wr.cell? ⟨g, i * 5 + j, none⟩ = some v := fun j v hv => (hnx.1.cell (p := ⟨g, i * 5 + j, none⟩) hb).trans (hcr j v hv)
      generalize ps[i] = p at *
      obtain ⟨p0, p1, p2, p3, p4⟩ := p
      have x0 : wr.cell? ⟨g, i * 5, none⟩ = some (.int .i64 (p0 : Int)) := cx 0 _ rfl
      have x1 : wr.cell? ⟨g, i * 5 + 1, none⟩ = some (.int .i64 (p1 : Int)) := cx 1 _ rfl
      have x2 : wr.cell? ⟨g, i * 5 + 1 + 1, none⟩ = some (.int .i64 (p2 : Int)) := cx 2 _ rfl
      have x3 : wr.cell? ⟨g, i * 5 + 1 + 1 + 1, none⟩ = some (.int .i64 (p3 : Int)) := cx 3 _ rfl
      have x4 : wr.cell? ⟨g, i * 5 + 1 + 1 + 1 + 1, none⟩ = some (.int .i64 (p4 : Int)) := cx 4 _ rfl
      simp only [putV] at hy
      rw [hii]
      clear cx hcr hx
      gi_wp2
      refine hR.mono ?_
      rintro e W3 (⟨rfl, hJ3, hk3⟩ | ⟨rfl, hJx3⟩)
      · gi_wp2
        go_roundw
        case rel => exact ⟨k + 1, by omega, by congr 1; omega, by rw [bkU_succ, hi]; exact hJ3, hnx.trans hk3⟩
        case measure => simp [intOf]
      · gi_wp2
        refine bodyPost_ret (results_none rfl _ _ _) rfl ?_
        exact ⟨⟨_, rfl⟩, .inr ⟨_, ⟨k + 1, by omega, by rw [bkU_succ, hi]⟩, hJx3⟩⟩
    · obtain rfl : k = ps.length := by omega
      have hneg : ¬ (0 : Int) ≤ (ps.length : Int) - 1 - (ps.length : Int) := by omega
      gi_wp2
      go_end0
      first
      | exact ⟨⟨_, rfl⟩, .inl ⟨_, rfl, hJs⟩⟩
      | exact ⟨⟨_, rfl⟩, .inl hJs⟩
set_option maxRecDepth 100000 in
set_option maxHeartbeats 2000000 in
theorem backward1_nil (F : Fence) (n : Nat) (hf : F.fn 160) (hro : F.round = none) (l Bs : Nat) (a : Option Addr) (cap : Nat) (J : List BkX → World → Prop) (W : World) (hc0 : W.cell? ⟨Bs, 0, none⟩ = some (.slice a 0 cap)) (h0 : J [] W) :
    CallsIn F n Tryd.prog 160 #[.func (.yield l) #[] #[], .pointer (some ⟨Bs, 0, none⟩)] W fun e W' => (∃ v, e = .returned v) ∧ J [] W' := by
  refine callsIn_of_wp Tryd.func160 rfl hf ?_ hro
  simp only [Tryd.ntmps160, List.size_toArray, List.length_cons, List.length_nil, Nat.reduceAdd, Nat.reduceSub, Array.replicate_succ, Array.replicate_zero, List.push_toArray, List.append_toArray, List.nil_append, List.cons_append]
  gi_wp2
  gi_loopw [3] (fun i wr => i = .int .i64 (-1) ∧ J [] wr) (fun _ _ => 0)
  case atStart => exact ⟨rfl, h0⟩
  case round =>
    obtain ⟨rfl, hJs⟩ := hrel
    gi_wp2
    go_end0
    exact ⟨⟨_, rfl⟩, hJs⟩
set_option maxHeartbeats 1000000 in
/-- slices.Backward itself: the slice is boxed; the value captures the box. -/
theorem backward_in (F : Fence) (n : Nat) (hf : F.fn 135) (hro : F.round = none) (a : Option Addr) (len cap : Nat) (w : World) :
    CallsIn F n Tryd.prog 135 #[.slice a len cap] w fun e w' => e = .returned (.func (.func 160) #[] #[.pointer (some ⟨w.heap.size, 0, none⟩)]) ∧ w' = w.alloc (.cells #[.slice a len cap] 61) := by
  refine callsIn_of_wp Tryd.func135 rfl hf ?_ hro
  simp only [Tryd.ntmps135, List.size_toArray, List.length_cons, List.length_nil, Nat.reduceAdd, Nat.reduceSub, Array.replicate_succ, Array.replicate_zero, List.push_toArray, List.append_toArray, List.nil_append, List.cons_append]
  gi_wp2
  go_ret
  exact ⟨rfl, rfl⟩
theorem row_range {w : World} {B g cap : Nat} {ps : List PutN} (h : w.ownsRow B 59 5 (.slice (some ⟨g, 0, none⟩) ps.length cap) ps.length (putCs ps)) (j : Nat) (p : PutN) (hj : ps[j]? = some p) : w.rangeAt g (j * 5) (putV p).toList := by
  intro i v hv
  have hlt : j < ps.length := (List.getElem?_eq_some_iff.1 hj).1
  have hi : i < 5 := (List.getElem?_eq_some_iff.1 hv).1
  rw [h.cellAt _ (by omega)]
  have := flat_at (fun p => (putV p).toList) 5 (fun _ => rfl) ps j p hj i hi
  unfold putCs
  rw [this]
  exact hv
/-- What slices.Backward hands back hands out all puts, the last first; or some of them. -/
theorem backward_stops (F : Fence) (n : Nat) (hf : F.fn 160) (hro : F.round = none) (hn : 1 ≤ n) (B Bs n₀ : Nat) (sv : Value) (ps : List PutN) (hw : ∀ p ∈ ps, okB p) (hl : ps.length ≤ 8) (w : World) (hBs : Bs < w.heap.size)
    (hc : w.cell? ⟨Bs, 0, none⟩ = some sv) (hI : w.ownsRow B 59 5 sv ps.length (putCs ps)) (hsv : ∀ g, sv.ownBlock = some g → g < n₀) :
    SeqStopsK F n Tryd.prog 160 #[.pointer (some ⟨Bs, 0, none⟩)] (fun x : BkX => #[Value.int .i64 (x.1.1 : Int), .agg (putV x.1.2)]) (BKp n₀ Bs) (fun ys => ys = bkU ps ps.length) (fun _ => True) ps.length w := fun l J Jx W hW _ _ hY h0 => by
  have hc' := (hW.cell (p := ⟨Bs, 0, none⟩) hBs).trans hc
  by_cases hz : ps.length = 0
  · obtain rfl : ps = [] := List.length_eq_zero_iff.1 hz
    obtain ⟨a, c, rfl⟩ := owns_len hI
    exact (backward1_nil F n hf hro l Bs a c J W hc' h0).mono fun e W' ⟨he, hj⟩ => ⟨he, .inl ⟨_, rfl, hj⟩⟩
  · obtain ⟨g, cap, rfl, _, hgl⟩ := hI.form (by omega)
    refine (backward1_in F n hf hro hn l Bs n₀ g cap ps hw hl (hsv g rfl) J Jx hY W hc' (fun j p hj => row_range (own_grow hI hW) j p hj) h0).mono ?_
    rintro e W' ⟨he, ⟨ys, rfl, hj⟩ | ⟨pre, ⟨k, hk, rfl⟩, hj⟩⟩
    · exact ⟨he, .inl ⟨_, rfl, hj⟩⟩
    · exact ⟨he, .inr ⟨_, trivial, hj⟩⟩
end Go.Proofs.YtmmflekajbeamaaDoor
