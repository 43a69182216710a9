/-
  Translates: the block at a place of the memory, the document's answer (cribref.BlockAt, Block).
  Plans, the document's answer: Accept.
  Lists that the caller writes full of a mark and appends marks to, of whatever elements: whatever they share, all of them read marks alone. E: the elements' type, k: their cells, mc: a mark's cells.
-/
import Derived.Test.YtmmflekajbeamaaDoorT26
import Derived.Test.YtmmflekajbeamaaDoorT28
import Derived.Test.YtmmflekajbeamaaDoorT23
import Derived.Test.YtmmflekajbeamaaDoorT22
import Derived.Test.YtmmflekajbeamaaDoorT08
import Derived.Test.YtmmflekajbeamaaDoorT13
import Derived.Maps.AppendAt
namespace Go.Proofs.YtmmflekajbeamaaDoor
open Go.RowKit

set_option maxRecDepth 100000 in
set_option maxHeartbeats 2000000 in
theorem refBlockAt_any (z mem : List Int) (pc : Nat) (w : World) (hl : z.length = 138) (hz : ∀ i, i < 128 → gz z (8 + i) = mem.getD i 0) (hm : ∀ i, 0 ≤ mem.getD i 0 ∧ mem.getD i 0 < 4294967296) (hpc : pc < 128) :
    Calls Tryd.prog 91 #[.agg (S z), .int .i64 (pc : Int)] w fun e' w' => e' = .returned (.string (bya (blkTxt mem pc))) ∧ Below w.heap.size w w' := by
  have hr : RowI (w.alloc (.cells (S z) 34)) w.heap.size 34 z := _root_.Go.heap_alloc_new w _
  have hb1 : Below w.heap.size w (w.alloc (.cells (S z) 34)) := (Below.refl w.heap.size w).alloc (Nat.le_refl _) _
  have HR := hide hr; have HB := hide hb1; have HM := hide hm; have HZ := hide hz
  have hpc' : (pc : Int) < 128 := by omega
  clear hr hb1 hm hz
  go_enter Tryd.func91, Tryd.ntmps91
  go_wp2_with fail
  go_loopw [5, 6] (fun t i wr => ∃ k : Nat, k ≤ 8 ∧ pc + k ≤ 128 ∧ i = .int .i64 k ∧ t = .string (bya (wdsT (blkW mem pc k))) ∧ Hid ((∀ q, q < k → plW (mem.getD (pc + q) 0) = true) ∧ RowI wr w.heap.size 34 z ∧ Below w.heap.size w wr)) (fun _ i _ => 8 - (intOf i).toNat)
  case atStart => exact ⟨0, Nat.zero_le _, by omega, rfl, rfl, fun q hq => by omega, HR.out, HB.out⟩
  case round =>
    obtain ⟨k, hk, hpk, rfl, rfl, HR2⟩ := hrel
    obtain ⟨hpl, hrow, hbl⟩ := HR2.out
    by_cases h8 : k < 8
    · have h8' : (k : Int) < 8 := by omega
      by_cases hlt : pc + k < 128
      · have hlt' : (pc : Int) + (k : Int) < 128 := by omega
        have hc := HM.out (pc + k)
        have hx0 : mem.getD (pc + k) 0 = (((mem.getD (pc + k) 0).toNat : Nat) : Int) := (Int.toNat_of_nonneg hc.1).symm
        have cm := hrow.cell (8 + (pc + k)) (by omega)
        rw [HZ.out (pc + k) hlt, hx0] at cm
        have HX : Hid (bya (wdsT (blkW mem pc k)) ++ bya (numB 4 (mem.getD (pc + k) 0).toNat) = bya (wdsT (blkW mem pc (k + 1)))) := by unfold Hid; rw [blkW_succ, wdsT_snoc, bya_app]
        have HPl := hide (fun w' => plain_any (mem.getD (pc + k) 0) w' hc.1 hc.2)
        have hplw : plB (fop (mem.getD (pc + k) 0)) (fa (mem.getD (pc + k) 0)) (fb (mem.getD (pc + k) 0)) (fc (mem.getD (pc + k) 0)) = plW (mem.getD (pc + k) 0) := rfl
        rw [hplw, hx0] at HPl
        have HNm := hide (fun w' => number_ref (mem.getD (pc + k) 0).toNat 4 w' (by decide) (by omega))
        have z1 : (bya (wdsT (blkW mem pc k))).size ≤ 64 := by rw [bya_size, wdsT_len, blkW_len]; omega
        have z2 : (bya (numB 4 (mem.getD (pc + k) 0).toNat)).size ≤ 64 := by rw [bya_size, numB_len]; decide
        have HEnd : Hid (plW (mem.getD (pc + k) 0) = false → blkTxt mem pc = wdsT (blkW mem pc (k + 1))) := fun hp => by
          unfold blkTxt
          rw [blkN_end mem pc (k + 1) (by omega) (by omega) (fun j hj => hpl j (by omega)) (by omega) (.inr (.inr (by rw [Nat.add_sub_cancel, hp]; decide)))]
        have HNx : Hid (plW (mem.getD (pc + k) 0) = true → ∀ q, q < k + 1 → plW (mem.getD (pc + q) 0) = true) := fun hp q hq => by
          by_cases hqk : q < k
          · exact hpl q hqk
          · obtain rfl : q = k := by omega
            exact hp
        rw [hx0] at HEnd HNx
        generalize bya (wdsT (blkW mem pc k)) = D1 at *
        generalize (mem.getD (pc + k) 0).toNat = x at *
        generalize bya (numB 4 x) = D2 at *
        have HRw := hide hrow; have HBl := hide hbl
        have hwz : w.heap.size < wr.heap.size := hrow.lt
        clear hc hx0 hplw hpl hrow hbl
        cases hq : plW (x : Int)
        · rw [hq] at HPl HEnd
          go_wp2_with fail
          refine (unhide HNm _).mono ?_
          rintro e w1 ⟨rfl, hb1⟩
          have HB1 : Hid (Below w.heap.size w w1) := HBl.out.trans (hb1.mono (by omega))
          clear hb1
          go_wp2_with fail
          refine (unhide HPl _).mono ?_
          rintro e w' ⟨rfl, hw⟩
          obtain rfl := hw.symm
          go_wp2_with fail
          go_ret
          refine ⟨?_, HB1.out⟩
          rw [HEnd.out (by first | trivial | rfl), ← HX.out]; rfl
        · rw [hq] at HPl HNx
          go_wp2_with fail
          refine (unhide HNm _).mono ?_
          rintro e w1 ⟨rfl, hb1⟩
          have HB1 : Hid (Below w.heap.size w w1) := HBl.out.trans (hb1.mono (by omega))
          have HR1 : Hid (RowI w1 w.heap.size 34 z) := HRw.out.keep (hb1.block _ hwz)
          clear hb1
          go_wp2_with fail
          refine (unhide HPl _).mono ?_
          rintro e w' ⟨rfl, hw⟩
          obtain rfl := hw.symm
          go_wp2_with fail
          refine ⟨⟨k + 1, by omega, by omega, by go_num, ?_, HNx.out (by first | trivial | rfl), HR1.out, HB1.out⟩, by simp [intOf]; omega⟩
          rw [HX.out]
      · have hlt' : ¬ (pc : Int) + (k : Int) < 128 := by omega
        have hlt'' : decide ((pc : Int) + (k : Int) < 128) = false := decide_eq_false hlt'
        have HEnd : Hid (blkTxt mem pc = wdsT (blkW mem pc k)) := by
          unfold Hid blkTxt
          rw [blkN_end mem pc k (by omega) hk (fun j hj => hpl j (by omega)) (by omega) (.inl (by omega))]
        have HBl := hide hbl
        clear hpl hrow hbl
        go_wp2_with fail
        go_ret
        refine ⟨?_, HBl.out⟩
        rw [HEnd.out]; rfl
    · have h8' : ¬ (k : Int) < 8 := by omega
      have HEnd : Hid (blkTxt mem pc = wdsT (blkW mem pc k)) := by
        unfold Hid blkTxt
        rw [blkN_end mem pc k (by omega) hk (fun j hj => hpl j (by omega)) (by omega) (.inr (.inl (by omega)))]
      have HBl := hide hbl
      clear hpl hrow hbl
      go_wp2_with fail
      go_ret
      refine ⟨?_, HBl.out⟩
      rw [HEnd.out]; rfl

theorem stB_mp {mem : List Int} {pc : Int} (hm : mem.length = 128) : stB (mkZ (List.replicate 8 0) mem pc 0) = true ↔ inM mem pc := by
  have hr : (List.replicate 8 (0 : Int)).length = 8 := by simp
  unfold stB inM
  rw [Bool.and_eq_true, Bool.and_eq_true]
  have e1 : regsB (mkZ (List.replicate 8 0) mem pc 0) = true := by
    unfold regsB
    rw [List.all_eq_true]
    intro i hi
    rw [mkZ_reg hr (List.mem_range.1 hi), List.getD_eq_getElem?_getD, List.getElem?_replicate, if_pos (List.mem_range.1 hi)]
    rfl
  have e2 : memB (mkZ (List.replicate 8 0) mem pc 0) = allW (gz mem) 128 := by
    unfold memB allW
    rw [Bool.eq_iff_iff, List.all_eq_true, List.all_eq_true]
    constructor
    · intro h i hi
      have := h i hi
      rw [mkZ_mem hr hm (List.mem_range.1 hi)] at this
      exact this
    · intro h i hi
      rw [mkZ_mem hr hm (List.mem_range.1 hi)]
      exact h i hi
  have e3 : pcB (mkZ (List.replicate 8 0) mem pc 0) = true ↔ 0 ≤ pc ∧ pc < 128 := by
    unfold pcB
    rw [mkZ_pc hr hm, mkZ_st hr hm]
    simp
  rw [e1, e2, e3]
  simp

set_option maxRecDepth 100000 in
set_option maxHeartbeats 2000000 in
theorem refBlock_any (mem : List Int) (pc : Int) (w : World) (hl : mem.length = 128) :
    Calls Tryd.prog 55 #[.agg (S mem), .int .i64 pc] w (BlkPost mem pc w) := by
  have hrl : (List.replicate 8 (0 : Int)).length = 8 := by simp
  have hst := stB_mp (pc := pc) hl
  have hZm : ∀ i, i < 128 → gz (mkZ (List.replicate 8 0) mem pc 0) (8 + i) = mem.getD i 0 := fun i hi => mkZ_mem hrl hl hi
  have hZl : (mkZ (List.replicate 8 0) mem pc 0).length = 138 := mkZ_len hrl hl
  have HBd := hide (build_mp mem pc hl)
  generalize mkZ (List.replicate 8 0) mem pc 0 = z at *
  obtain ⟨W1, hW1⟩ : ∃ W1, W1 = w.alloc (.cells (S mem) 32) := ⟨_, rfl⟩
  have HW := hide hW1
  have z34 := zero34
  have hz1 : W1.heap.size = w.heap.size + 1 := by rw [hW1, size_alloc1]
  have r0 : RowI W1 w.heap.size 32 mem := by unfold RowI; rw [hW1, _root_.Go.heap_alloc_new]
  have r1 : RowI (W1.alloc (.cells (S zeroZ) 34)) (w.heap.size + 1) 34 zeroZ := by
    unfold RowI
    have := _root_.Go.heap_alloc_new W1 (.cells (S zeroZ) 34)
    rw [hz1] at this
    exact this
  obtain ⟨W2, hW2⟩ : ∃ W2, W2 = (W1.alloc (.cells (S zeroZ) 34)).setRow (w.heap.size + 1) (S z) := ⟨_, rfl⟩
  have r2 : RowI W2 (w.heap.size + 1) 34 z := by rw [hW2]; exact r1.setRow z
  have hb1 : Below w.heap.size w W1 := by rw [hW1]; exact (Below.refl _ _).alloc (Nat.le_refl _) _
  have hb2 : Below w.heap.size w W2 := by rw [hW2]; exact below_setRow (hb1.alloc (by omega) _) (by omega) _
  have HW2 := hide hW2; have HR0 := hide r0; have HR1 := hide r1; have HR2 := hide r2; have HB2 := hide hb2
  have HRt := hide (right_any z W2 hZl)
  have hz2 : w.heap.size + 1 < W2.heap.size := r2.lt
  clear r0 r1 r2 hb1 hb2 hW1 hW2
  by_cases hok : inM mem pc
  · rw [hst.2 hok] at HRt
    have HOK := hide hok
    obtain ⟨n, rfl⟩ : ∃ n : Nat, pc = (n : Int) := ⟨pc.toNat, by have := hok.2.1; omega⟩
    have HAt := hide (fun w' => refBlockAt_any z mem n w' hZl hZm (inM_bd hl hok.1) (by have := hok.2.2; omega))
    have HFin : Hid (∀ w', Below W2.heap.size W2 w' → BlkPost mem (n : Int) w (.returned (.tuple #[.string (bya (blkTxt mem n)), .int .i64 0])) w') := fun w' hb => ⟨HB2.out.trans (hb.mono HB2.out.size), .inl ⟨HOK.out, by rw [Int.toNat_natCast]⟩⟩
    clear hst hok hZm
    go_enter Tryd.func55, Tryd.ntmps55
    go_wp2_with (first | (refine wpList_loadR rfl Tryd.underlying32 size128 rfl _ rfl w.heap.size rfl (by rw [← HW.out]; exact HR0.out.isRow 128 hl) (S mem) (by rw [← HW.out]; exact HR0.out.rowD) ?_) | (refine wpList_buildR rfl 34 1 2 _ _ rfl (.agg (S mem)) (.int .i64 (n : Int)) _ rfl rfl (HBd.out _) ?_) | (refine wpList_storeR size34 rfl _ _ rfl (w.heap.size + 1) rfl z rfl hZl (by rw [← HW.out]; exact HR1.out.isRow 138 (by simp [zeroZ])) W2 (by rw [← HW.out]; exact HW2.out.symm) ?_) | (refine wpList_loadR rfl Tryd.underlying34 size34 rfl _ rfl (w.heap.size + 1) rfl (HR2.out.isRow 138 hZl) (S z) HR2.out.rowD ?_))
    refine (unhide HRt).mono ?_
    rintro e w1 ⟨rfl, hb1⟩
    have HB1 := hide hb1
    have HR3 := hide (HR2.out.keep (hb1.block _ hz2))
    clear hb1
    go_wp2_with (refine wpList_loadR rfl Tryd.underlying34 size34 rfl _ rfl (w.heap.size + 1) rfl (HR3.out.isRow 138 hZl) (S z) HR3.out.rowD ?_)
    refine (unhide HAt _).mono ?_
    rintro e w2 ⟨rfl, hb2⟩
    have HB3 : Hid (Below W2.heap.size W2 w2) := HB1.out.trans (hb2.mono HB1.out.size)
    clear hb2
    go_wp2_with fail
    go_ret2
    exact HFin.out _ HB3.out
  · have hf : stB z = false := by
      cases hq : stB z
      · rfl
      · exact absurd (hst.1 hq) hok
    rw [hf] at HRt
    have HOK := hide hok
    have HFin : Hid (∀ w', Below W2.heap.size W2 w' → BlkPost mem pc w (.returned (.tuple #[.string (bya []), .int .i64 8])) w') := fun w' hb => ⟨HB2.out.trans (hb.mono HB2.out.size), .inr ⟨HOK.out, rfl⟩⟩
    clear hst hok hZm hf
    go_enter Tryd.func55, Tryd.ntmps55
    go_wp2_with (first | (refine wpList_loadR rfl Tryd.underlying32 size128 rfl _ rfl w.heap.size rfl (by rw [← HW.out]; exact HR0.out.isRow 128 hl) (S mem) (by rw [← HW.out]; exact HR0.out.rowD) ?_) | (refine wpList_buildR rfl 34 1 2 _ _ rfl (.agg (S mem)) (.int .i64 pc) _ rfl rfl (HBd.out _) ?_) | (refine wpList_storeR size34 rfl _ _ rfl (w.heap.size + 1) rfl z rfl hZl (by rw [← HW.out]; exact HR1.out.isRow 138 (by simp [zeroZ])) W2 (by rw [← HW.out]; exact HW2.out.symm) ?_) | (refine wpList_loadR rfl Tryd.underlying34 size34 rfl _ rfl (w.heap.size + 1) rfl (HR2.out.isRow 138 hZl) (S z) HR2.out.rowD ?_))
    refine (unhide HRt).mono ?_
    rintro e w1 ⟨rfl, hb1⟩
    have HB1 := hide hb1
    clear hb1
    go_wp2_with fail
    go_ret2
    exact HFin.out _ HB1.out
end Go.Proofs.YtmmflekajbeamaaDoor

namespace Go.Proofs.YtmmflekajbeamaaDoor
open Go.RowKit

theorem bya_inj {x y : List UInt8} : bya x = bya y ↔ x = y := by
  constructor
  · intro h
    have := congrArg (fun b : ByteArray => b.data.toList) h
    simpa [bya] using this
  · rintro rfl; rfl
set_option maxRecDepth 100000 in
set_option maxHeartbeats 2000000 in
theorem refAccept_any (s p : ByteArray) (w : World) (hs : s.size ≤ maxLen) (hp : p.size ≤ maxLen) :
    Calls Tryd.prog 54 #[.string s, .string p] w fun e' w' => Below w.heap.size w w' ∧ ∃ n, e' = .returned (.int .i64 n) ∧ AccIs s p n := by
  by_cases hok : blkOK s
  · have HIb := hide (isBlock_yes s w hok)
    have HPt := hide (refPuts_any p w hp)
    have HBw := hide (fun w' => byWords_ref s w' hok)
    have HOk := hide hok
    clear hok
    go_enter Tryd.func54, Tryd.ntmps54
    go_wp2_with fail
    refine (unhide HIb).mono ?_
    rintro e w' ⟨rfl, hw⟩
    obtain rfl := hw.symm
    go_wp2_with fail
    refine (unhide HPt).mono ?_
    rintro e w1 ⟨hb1, ⟨hpk, pv, rfl, hpo⟩ | ⟨hpn, rfl⟩⟩
    · have HB1 := hide hb1; have HPk := hide hpk; have HPo := hide hpo
      have hz1 := hb1.size
      clear hb1 hpk hpo HPt HIb
      go_wp2_with fail
      refine (unhide HBw _).mono ?_
      rintro e w2 ⟨hb2, v2, rfl, ho2⟩
      have hpo2 : w2.ownsRow w.heap.size 59 5 pv (putL p (p.size / 8)).length (putCs (putL p (p.size / 8))) := by rw [putL_len]; exact own_grow HPo.out hb2
      have HBp := hide (byPuts_ref w.heap.size pv (putL p (p.size / 8)) w2 hpo2 (putL_ok HPk.out) (by rw [putL_len]; have := HPk.out.2.1; omega))
      have HB2 := hide hb2; have HO2 := hide ho2
      have hz2 := hb2.size
      clear hb2 ho2 hpo2 HBw
      go_wp2_with fail
      refine (unhide HBp).mono ?_
      rintro e w3 ⟨hb3, v3, rfl, ho3⟩
      have HB3 : Hid (Below w.heap.size w w3) := (HB1.out.trans (HB2.out.mono hz1)).trans (hb3.mono (Nat.le_trans hz1 hz2))
      have hoX := own_grow HO2.out hb3
      obtain ⟨g2, c2, rfl, _, hg2⟩ := hoX.form (by decide)
      obtain ⟨g3, c3, rfl, _, hg3⟩ := ho3.form (by decide)
      have HX := hide (fun (i : Nat) (hi : i < 16) => (hoX.cellAt i (by omega)).trans (txCs_get (comeS (blkPuts s)) i (by rw [comeS_len]; exact hi)))
      have HY := hide (fun (i : Nat) (hi : i < 16) => (ho3.cellAt i (by omega)).trans (txCs_get (comeS (putL p (p.size / 8))) i (by rw [comeS_len]; exact hi)))
      clear hb3 ho3 hoX HBp HO2
      go_wp2_with fail
      go_loopw [10] (fun i wr => ∃ k : Nat, k ≤ 8 ∧ i = .int .i64 k ∧ Below w3.heap.size w3 wr ∧ Hid (∀ q, q < k → (comeS (blkPuts s)).getD q [] = (comeS (putL p (p.size / 8))).getD q [])) (fun i _ => 8 - (intOf i).toNat)
      case atStart => exact ⟨0, Nat.zero_le _, rfl, Below.refl _ _, fun q hq => by omega⟩
      case round =>
        obtain ⟨k, hk, rfl, hbl, HG⟩ := hrel
        have HBl := hide hbl
        by_cases hlt : k < 8
        · have hlt' : (k : Int) < 8 := by omega
          have hlt16 : (k : Int) < 16 := by omega
          have x0 := (below_cell' hbl g2 k hg2).trans (HX.out k (by omega))
          have y0 := (below_cell' hbl g3 k hg3).trans (HY.out k (by omega))
          by_cases he : (comeS (blkPuts s)).getD k [] = (comeS (putL p (p.size / 8))).getD k []
          · rw [← he] at y0
            have HG' : Hid (∀ q, q < k + 1 → (comeS (blkPuts s)).getD q [] = (comeS (putL p (p.size / 8))).getD q []) := fun q hq => by
              by_cases hqk : q = k
              · rw [hqk]; exact he
              · exact HG.out q (by omega)
            generalize bya ((comeS (blkPuts s)).getD k []) = D at *
            clear he HG hbl
            go_wp2_with fail
            go_quiet (fail)
            go_wp2_with fail
            exact ⟨⟨k + 1, by omega, by go_num, below_drewN HBl.out nq, HG'⟩, by simp [intOf]; omega⟩
          · have HN : Hid (¬ (comeS (blkPuts s)).take 8 = (comeS (putL p (p.size / 8))).take 8) := fun h => he ((take_eq_iff [] (by rw [comeS_len]; decide) (by rw [comeS_len]; decide)).1 h k hlt)
            have hne : ((bya ((comeS (blkPuts s)).getD k [])).toList == (bya ((comeS (putL p (p.size / 8))).getD k [])).toList) = false := by
              rw [ByteArray.toList_eq, ByteArray.toList_eq, bya_list, bya_list]
              exact beq_eq_false_iff_ne.2 he
            generalize bya ((comeS (blkPuts s)).getD k []) = D at *
            generalize bya ((comeS (putL p (p.size / 8))).getD k []) = D' at *
            clear he HG hbl
            go_wp2_with fail
            go_quiet (fail)
            go_wp2_with fail
            go_ret
            exact ⟨HB3.out.trans ((below_drewN HBl.out nq).mono HB3.out.size), _, rfl, .inr (.inr (.inr ⟨HOk.out, HPk.out, HN.out, rfl⟩))⟩
        · have hkn : k = 8 := by omega
          have hlt' : ¬ (k : Int) < 8 := by omega
          have HY' : Hid ((comeS (blkPuts s)).take 8 = (comeS (putL p (p.size / 8))).take 8) := (take_eq_iff [] (by rw [comeS_len]; decide) (by rw [comeS_len]; decide)).2 (fun i hi => HG.out i (by omega))
          clear hbl hkn
          go_wp2_with fail
          go_ret
          exact ⟨HB3.out.trans (HBl.out.mono HB3.out.size), _, rfl, .inr (.inr (.inl ⟨HOk.out, HPk.out, HY'.out, rfl⟩))⟩
    · have HB1 := hide hb1; have HN := hide hpn
      clear hb1 hpn HPt HIb
      go_wp2_with fail
      go_ret
      exact ⟨HB1.out, _, rfl, .inr (.inl ⟨HOk.out, HN.out, rfl⟩)⟩
  · have HIb := hide (isBlock_no s w hok hs)
    have HN := hide hok
    clear hok
    go_enter Tryd.func54, Tryd.ntmps54
    go_wp2_with fail
    refine (unhide HIb).mono ?_
    rintro e w' ⟨rfl, hw⟩
    obtain rfl := hw.symm
    go_wp2_with fail
    go_ret
    exact ⟨Below.refl _ _, _, rfl, .inl ⟨HN.out, rfl⟩⟩
end Go.Proofs.YtmmflekajbeamaaDoor

namespace Go.Proofs.YtmmflekajbeamaaDoor
open Go.RowKit

section
variable {E : TypeId} {k : Nat} {mc : List Value}
/-- What writing marks leaves: blocks below B as they were; in rows of E marks stay marks; other blocks as they were. -/
structure KG (E : TypeId) (k : Nat) (mc : List Value) (B : Nat) (w w' : World) : Prop where
  below : Below B w w'
  keep : ∀ (g : Nat) (cur : Array Value), w.heap[g]? = some (.cells cur E (0, 0)) → ∃ cur' : Array Value, w'.heap[g]? = some (.cells cur' E (0, 0)) ∧ cur'.size = cur.size ∧ ∀ (j : Nat) (u : Value), mc[j % k]? = some u → cur[j]? = some u → cur'[j]? = some u
  other : ∀ g, g < w.heap.size → (∀ cur, w.heap[g]? ≠ some (.cells cur E (0, 0))) → w'.heap[g]? = w.heap[g]?
theorem KG.refl (B : Nat) (w : World) : KG E k mc B w w := ⟨Below.refl _ _, fun _ cur h => ⟨cur, h, rfl, fun _ _ _ h => h⟩, fun _ _ _ => rfl⟩
theorem KG.trans {B : Nat} {a b c : World} (h : KG E k mc B a b) (q : KG E k mc B b c) : KG E k mc B a c := by
  refine ⟨h.below.trans q.below, fun g cur hg => ?_, fun g hg hn => ?_⟩
  · obtain ⟨c1, h1, h2, h3⟩ := h.keep g cur hg
    obtain ⟨c2, k1, k2, k3⟩ := q.keep g c1 h1
    exact ⟨c2, k1, k2.trans h2, fun j u hu hj => k3 j u hu (h3 j u hu hj)⟩
  · have h1 := h.other g hg hn
    exact (q.other g (Nat.lt_of_lt_of_le hg h.below.size) (fun cur e => hn cur (h1 ▸ e))).trans h1
theorem KG.above {B : Nat} {a b : World} (hB : B ≤ a.heap.size) (h : Below a.heap.size a b) : KG E k mc B a b :=
  ⟨h.mono hB, fun g cur hg => ⟨cur, (h.block g (Array.getElem?_eq_some_iff.1 hg).1).trans hg, rfl, fun _ _ _ h => h⟩, fun g hg _ => h.block g hg⟩
/-- A slice whose elements are all the mark. -/
def GS (E : TypeId) (k : Nat) (mc : List Value) (w : World) (v : Value) : Prop :=
  ∃ a n c, v = .slice a n c ∧ n ≤ 10000 ∧ (0 < n → ∃ g cur, a = some ⟨g, 0, none⟩ ∧ w.heap[g]? = some (.cells cur E (0, 0)) ∧ ∀ (j : Nat) (u : Value), j < n * k → mc[j % k]? = some u → cur[j]? = some u)
theorem GS.kg {B : Nat} {w w' : World} {v : Value} (h : GS E k mc w v) (q : KG E k mc B w w') : GS E k mc w' v := by
  obtain ⟨a, n, c, hv, hle, h⟩ := h
  refine ⟨a, n, c, hv, hle, fun hn => ?_⟩
  obtain ⟨g, cur, ha, hg, hc⟩ := h hn
  obtain ⟨cur', g1, _, g3⟩ := q.keep g cur hg
  exact ⟨g, cur', ha, g1, fun j u hj hu => g3 j u hu (hc j u hj hu)⟩
theorem GS.block {w w' : World} {v : Value} (h : GS E k mc w v) (q : ∀ g, g < w.heap.size → (∃ cur, w.heap[g]? = some (.cells cur E (0, 0))) → w'.heap[g]? = w.heap[g]?) : GS E k mc w' v := by
  obtain ⟨a, n, c, hv, hle, h⟩ := h
  refine ⟨a, n, c, hv, hle, fun hn => ?_⟩
  obtain ⟨g, cur, ha, hg, hc⟩ := h hn
  exact ⟨g, cur, ha, (q g (Array.getElem?_eq_some_iff.1 hg).1 ⟨cur, hg⟩).trans hg, hc⟩
def gks (mc : List Value) (n : Nat) : List Value := (List.replicate n mc).flatten
theorem gks_len (hk : mc.length = k) (n : Nat) : (gks mc n).length = n * k := by
  unfold gks
  rw [List.length_flatten, List.map_replicate, List.sum_replicate_nat, hk]
theorem gks_succ (n : Nat) : gks mc (n + 1) = mc ++ gks mc n := by unfold gks; rw [List.replicate_succ, List.flatten_cons]
theorem gks_add (n m : Nat) : gks mc n ++ gks mc m = gks mc (n + m) := by unfold gks; rw [← List.flatten_append, List.replicate_append_replicate]
theorem gks_at (hk : mc.length = k) : ∀ (n j : Nat), j < n * k → (gks mc n)[j]? = mc[j % k]? := by
  intro n
  induction n with
  | zero => intro j hj; omega
  | succ n ih =>
    intro j hj
    rw [gks_succ]
    by_cases h : j < k
    · rw [List.getElem?_append_left (by omega), Nat.mod_eq_of_lt h]
    · rw [List.getElem?_append_right (by omega), hk, ih (j - k) (by rw [Nat.succ_mul] at hj; omega)]
      congr 1
      rw [Nat.mod_eq_sub_mod (by omega : k ≤ j)]
theorem gtake_iff (hk : mc.length = k) (k0 : 0 < k) (cur : Array Value) (n : Nat) : cur.toList.take (n * k) = gks mc n ↔ ∀ (j : Nat) (u : Value), j < n * k → mc[j % k]? = some u → cur[j]? = some u := by
  constructor
  · intro h j u hj hu
    have : (cur.toList.take (n * k))[j]? = (gks mc n)[j]? := by rw [h]
    rw [List.getElem?_take, if_pos hj, gks_at hk n j hj, hu] at this
    rw [← this, Array.getElem?_toList]
  · intro h
    apply List.ext_getElem?
    intro j
    rw [List.getElem?_take]
    by_cases hj : j < n * k
    · rw [if_pos hj, gks_at hk n j hj, Array.getElem?_toList]
      have hm : j % k < mc.length := by rw [hk]; exact Nat.mod_lt _ k0
      rw [h j mc[j % k] hj (List.getElem?_eq_getElem hm), List.getElem?_eq_getElem hm]
    · rw [if_neg hj, List.getElem?_eq_none (by rw [gks_len hk]; omega)]
theorem own_gs (hk : mc.length = k) (k0 : 0 < k) {w : World} {B : Nat} {v : Value} {n : Nat} (h : w.ownsRow B E k v n (gks mc n)) (hn : n ≤ 10000) : GS E k mc w v := by
  rcases h.2 with ⟨rfl, h0⟩ | ⟨g, cap, cur, rfl, hb, hg, hnc, hcm, hcs, ht⟩
  · exact ⟨none, 0, 0, rfl, by omega, fun h => by omega⟩
  · exact ⟨_, n, cap, rfl, hn, fun _ => ⟨g, cur, rfl, hg, (gtake_iff hk k0 cur n).1 ht⟩⟩
theorem own_kg (hk : mc.length = k) (k0 : 0 < k) {w w' : World} {B B' : Nat} {v : Value} {n : Nat} (h : w.ownsRow B E k v n (gks mc n)) (q : KG E k mc B' w w') : w'.ownsRow B E k v n (gks mc n) := by
  refine ⟨h.1, ?_⟩
  rcases h.2 with h0 | ⟨g, cap, cur, hv, hb, hg, hnc, hcm, hcs, ht⟩
  · exact .inl h0
  · obtain ⟨cur', g1, g2, g3⟩ := q.keep g cur hg
    exact .inr ⟨g, cap, cur', hv, hb, g1, hnc, hcm, g2.trans hcs, (gtake_iff hk k0 cur' n).2 (fun j u hj hu => g3 j u hu ((gtake_iff hk k0 cur n).1 ht j u hj hu))⟩
/-- A cell of a mark is written into a row, at its place. -/
theorem KG.store {B : Nat} {w : World} {g n cap : Nat} {xs : List Value} (h : w.ownsRow B E k (.slice (some ⟨g, 0, none⟩) n cap) n xs) (j : Nat) {u : Value} (hu : mc[j % k]? = some u) : KG E k mc B w (w.setCell ⟨g, j, none⟩ u) := by
  obtain ⟨cur0, hg0⟩ := ownsRow_kind h g rfl
  refine ⟨(Below.refl _ _).setCell (p := ⟨g, j, none⟩) (row_lt h g rfl).1 _, fun q cur hq => ?_, fun q _ hn => ?_⟩
  · by_cases hqg : q = g
    · subst hqg
      rw [hg0] at hq
      cases hq
      refine ⟨cur0.setIfInBounds j u, heap_setCell_same w q j cur0 _ _ hg0, by simp, fun i v hv hi => ?_⟩
      rw [Array.getElem?_setIfInBounds]
      split
      · rename_i hij
        subst hij
        rw [if_pos (Array.getElem?_eq_some_iff.1 hi).1, ← hu, hv]
      · exact hi
    · exact ⟨cur, (heap_set_other w _ hqg).trans hq, rfl, fun _ _ _ h => h⟩
  · exact heap_set_other w _ (fun e => hn cur0 (e ▸ hg0))
end
set_option maxRecDepth 4000 in
/-- Marks are appended to a list of marks. -/
theorem run_append_g {P : Program} {T E ty : TypeId} {k by' : Nat} {mc : List Value} {inf : TypeInfo} {z : Value} (hT : P.underlying T = some (.slice E)) (hinf : P.info? E = some inf) (hz : inf.zero = some z) (hsz : inf.size = k) (hby : inf.bytes = by') (hzc : z.cells.size = k) (hb1 : by' ≤ 1000) (hk : mc.length = k) (k0 : 0 < k) (h1 : ∀ u ∈ mc, u.oneCell' = true)
    (w : World) (B : Nat) (v : Value) (n m c : Nat) (h : w.ownsRow B E k v n (gks mc n)) (ad : Addr) (hnews : ∀ j u, (gks mc m)[j]? = some u → w.cell? (ad.add j) = some u) (hn : n + m ≤ 10000) (hB : B ≤ w.heap.size) :
    ∃ v' w', (Builtin.append_ #[T, T] ty #[v, .slice (some ad) m c]).run P w = .ok v' w' ∧ w'.ownsRow B E k v' (n + m) (gks mc (n + m)) ∧ KG E k mc B w w' ∧ ∃ a cc, v' = .slice a (n + m) cc := by
  have hl : (gks mc m).length = m * k := gks_len hk m
  have h1' : ∀ u ∈ gks mc m, u.oneCell' = true := fun u hu => by
    unfold gks at hu
    obtain ⟨l, hl, hu⟩ := List.mem_flatten.1 hu
    rw [List.eq_of_mem_replicate hl] at hu
    exact h1 u hu
  have hmb : (n + m) * by' ≤ 10000000 := Nat.le_trans (Nat.mul_le_mul hn hb1) (by decide)
  rcases h.2 with ⟨hv, hn0⟩ | ⟨g, cap, cur, hv, hb, hg, hnc, hcm, hcs, ht⟩
  · obtain ⟨v', w', hr, hown, hgr, _, _⟩ := run_append_own_at (P := P) w B T ty E inf z k by' hT hinf hz hsz hby hzc k0 v n _ h ad m c (gks mc m) hl hnews h1' (by unfold maxLen; omega) (by omega) hB
    rw [gks_add] at hown
    refine ⟨v', w', hr, hown, ?_, owns_len hown⟩
    refine KG.above hB ⟨hgr.os, hgr.tape, hgr.output, hgr.size, fun i hi => hgr.block i hi (by rw [hv]; simp [Value.ownBlock])⟩
  · by_cases hroom : n + m ≤ cap
    · have hfit : n * inf.size + (gks mc m).length ≤ cur.size := by
        rw [hsz, hl, hcs, ← Nat.add_mul]
        exact Nat.mul_le_mul_right k hroom
      have hr := run_append_room (P := P) w T ty E inf hT hinf g n cap cur hg ad m c (gks mc m) (by rw [hsz]; exact hl) hnews h1' hroom hfit
      rw [hv]
      have hcell : ∀ j, (cur.toList.take (n * inf.size) ++ gks mc m ++ cur.toList.drop (n * inf.size + (gks mc m).length)).toArray[j]? = if n * k ≤ j ∧ j < (n + m) * k then mc[j % k]? else cur[j]? := fun j => by
        rw [hsz, hl, List.getElem?_toArray, List.append_assoc]
        have hadd : (n + m) * k = n * k + m * k := Nat.add_mul _ _ _
        rw [hsz, hl] at hfit
        have htl : (cur.toList.take (n * k)).length = n * k := by rw [List.length_take, Array.length_toList]; omega
        by_cases hj : j < n * k
        · rw [List.getElem?_append_left (by omega), List.getElem?_take, if_pos hj, if_neg (by omega), Array.getElem?_toList]
        · rw [List.getElem?_append_right (by omega), htl]
          by_cases hj2 : j < (n + m) * k
          · rw [List.getElem?_append_left (by rw [hl]; omega), if_pos (by omega), gks_at hk m (j - n * k) (by omega)]
            congr 1
            have : j = (j - n * k) + n * k := by omega
            conv => rhs; rw [this, Nat.add_mul_mod_self_right]
          · rw [List.getElem?_append_right (by rw [hl]; omega), hl, List.getElem?_drop, if_neg (by omega), Array.getElem?_toList]
            congr 1
            omega
      have hsize : (cur.toList.take (n * inf.size) ++ gks mc m ++ cur.toList.drop (n * inf.size + (gks mc m).length)).toArray.size = cur.size := by
        rw [hsz] at hfit ⊢
        simp only [List.size_toArray, List.length_append, List.length_take, List.length_drop, Array.length_toList]
        omega
      generalize (cur.toList.take (n * inf.size) ++ gks mc m ++ cur.toList.drop (n * inf.size + (gks mc m).length)).toArray = cur' at *
      have hg' := setRow_heap w g cur cur' E (0, 0) hg
      have hold := (gtake_iff hk k0 cur n).1 ht
      have hnew : ∀ (j : Nat) (u : Value), j < (n + m) * k → mc[j % k]? = some u → cur'[j]? = some u := fun j u hj hu => by
        rw [hcell]
        by_cases hjn : n * k ≤ j
        · rw [if_pos ⟨hjn, hj⟩, hu]
        · rw [if_neg (by omega)]
          exact hold j u (by omega) hu
      refine ⟨_, _, hr, ⟨gks_len hk _, .inr ⟨g, cap, cur', rfl, hb, hg', hroom, hcm, by rw [hsize]; exact hcs, (gtake_iff hk k0 cur' (n + m)).2 hnew⟩⟩, ⟨⟨rfl, rfl, rfl, by simp, fun i hi => setRow_other w g i _ (by omega)⟩, fun i ci hi => ?_, fun i _ hni => setRow_other w g i _ (fun e => hni cur (e ▸ hg))⟩, ⟨_, _, rfl⟩⟩
      by_cases hig : i = g
      · subst hig
        rw [hg] at hi
        cases hi
        refine ⟨cur', hg', hsize, fun j u hu hj => ?_⟩
        rw [hcell]
        split
        · exact hu
        · exact hj
      · exact ⟨ci, (setRow_other w g i _ hig).trans hi, rfl, fun _ _ _ h => h⟩
    · rw [hv] at h ⊢
      have holds : ∀ j u, (gks mc n)[j]? = some u → w.cell? ((⟨g, 0, none⟩ : Addr).add j) = some u := h.cells (g := g) rfl
      have hr := run_append_grow (P := P) w T ty E inf z hT hinf hz ⟨g, 0, none⟩ n cap (gks mc n) (by rw [hsz]; exact h.1) holds ad m c (gks mc m) (by rw [hsz]; exact hl) hnews (by omega) (by omega) (growslice_fits (by omega) (by rw [hby]; omega))
      obtain ⟨v', w', hr', hown, hgr, _, hloc⟩ := run_append_own_at (P := P) w B T ty E inf z k by' hT hinf hz hsz hby hzc k0 _ n _ h ad m c (gks mc m) hl hnews h1' (by unfold maxLen; omega) (by omega) hB
      rw [gks_add] at hown
      have he : w' = w.drew.alloc (.cells ((gks mc n).toArray ++ (gks mc m).toArray ++ Builtin.zeroCells z.cells (grownCap w (n + m) cap E - (n + m))) E) := by
        rw [hr] at hr'
        simp only [Result.ok.injEq] at hr'
        exact hr'.2.symm
      refine ⟨v', w', hr', hown, ?_, owns_len hown⟩
      rw [he]
      exact KG.above hB ⟨rfl, rfl, rfl, by simp, fun i hi => Below.heap_alloc w.drew _ i hi⟩
end Go.Proofs.YtmmflekajbeamaaDoor
