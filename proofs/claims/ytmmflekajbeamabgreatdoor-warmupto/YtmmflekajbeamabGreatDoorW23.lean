/-
  The engine: the opening (open).
-/
import Derived.Test.YtmmflekajbeamabGreatDoorW22
namespace Go.Proofs.YtmmflekajbeamabGreatDoor
open Go.RowKit Go.Maps Go.WideMaps

theorem sizeAs : (Tryz.prog.info? 185).map (·.size) = some 8 := by kernel_rfl
set_option maxRecDepth 100000 in
theorem idx_t0 (x0 x1 : Value) (w : World) : (Instr.index 180 (.agg #[x0, x1]) (.int .i64 0)).run Tryz.prog w = .ok x0 w := by kernel_rfl
set_option maxRecDepth 100000 in
theorem idx_t1 (x0 x1 : Value) (w : World) : (Instr.index 180 (.agg #[x0, x1]) (.int .i64 1)).run Tryz.prog w = .ok x1 w := by kernel_rfl
/-- In the midst of the opening: texts in a box, areas in the next one. -/
structure OpI (Wb : World) (n : Nat) (a b : ArN) (u v : Value) (wr : World) : Prop where
  bel : Below n Wb wr
  row : wr.heap[n]? = some (.cells (arsV a b u v) 185 (0, 0))
  ou : wr.ownsRow (n + 1) 71 2 u a.list.length (knCs a.list)
  ov : wr.ownsRow (n + 1) 71 2 v b.list.length (knCs b.list)
theorem OpI.lt {Wb : World} {n : Nat} {a b : ArN} {u v : Value} {wr : World} (h : OpI Wb n a b u v wr) : n < wr.heap.size := (Array.getElem?_eq_some_iff.1 h.row).1
theorem OpI.up {Wb : World} {n : Nat} {a b : ArN} {u v : Value} {wr w2 : World} (h : OpI Wb n a b u v wr) (hb : Below wr.heap.size wr w2) : OpI Wb n a b u v w2 :=
  ⟨h.bel.trans (hb.mono (Nat.le_of_lt h.lt)), (hb.block n h.lt).trans h.row, own_grow h.ou hb, own_grow h.ov hb⟩
theorem OpI.cells {Wb : World} {n : Nat} {a b : ArN} {u v : Value} {wr : World} (h : OpI Wb n a b u v wr) : (wr.cell? ⟨n, 0, none⟩ = some (.int .i64 (a.gen : Int)) ∧ wr.cell? ⟨n, 1, none⟩ = some (.bool a.whole) ∧ wr.cell? ⟨n, 2, none⟩ = some (.int .i64 (a.good : Int)) ∧ wr.cell? ⟨n, 3, none⟩ = some u) ∧ (wr.cell? ⟨n, 4, none⟩ = some (.int .i64 (b.gen : Int)) ∧ wr.cell? ⟨n, 5, none⟩ = some (.bool b.whole) ∧ wr.cell? ⟨n, 6, none⟩ = some (.int .i64 (b.good : Int)) ∧ wr.cell? ⟨n, 7, none⟩ = some v) ∧ ∀ j, wr.frozen? ⟨n, j, none⟩ = false := by
  have r := h.row
  refine ⟨⟨?_, ?_, ?_, ?_⟩, ⟨?_, ?_, ?_, ?_⟩, fun j => ?_⟩ <;> first | simp [World.cell?, r, arsV] | simp [World.frozen?, r]
def set4 (w : World) (n o : Nat) (a : ArN) (u : Value) : World := (((w.setCell ⟨n, o, none⟩ (.int .i64 (a.gen : Int))).setCell ⟨n, o + 1, none⟩ (.bool a.whole)).setCell ⟨n, o + 1 + 1, none⟩ (.int .i64 (a.good : Int))).setCell ⟨n, o + 1 + 1 + 1, none⟩ u
theorem set4_other (w : World) (n o : Nat) (a : ArN) (u : Value) {x : Nat} (hx : x ≠ n) : (set4 w n o a u).heap[x]? = w.heap[x]? := by
  unfold set4
  rw [set_other hx, set_other hx, set_other hx, set_other hx]
theorem set4_below {Wb w : World} {n : Nat} (h : Below n Wb w) (o : Nat) (a : ArN) (u : Value) : Below n Wb (set4 w n o a u) :=
  (((h.setCell (p := ⟨n, o, none⟩) (Nat.le_refl _) _).setCell (p := ⟨n, o + 1, none⟩) (Nat.le_refl _) _).setCell (p := ⟨n, o + 1 + 1, none⟩) (Nat.le_refl _) _).setCell (p := ⟨n, o + 1 + 1 + 1, none⟩) (Nat.le_refl _) _
theorem OpI.set0 {Wb : World} {n : Nat} {a b : ArN} {u v : Value} {wr : World} (h : OpI Wb n a b u v wr) {a' : ArN} {u' : Value} (ho : wr.ownsRow (n + 1) 71 2 u' a'.list.length (knCs a'.list)) : OpI Wb n a' b u' v (set4 wr n 0 a' u') := by
  refine ⟨set4_below h.bel 0 a' u', ?_, ownsRow_keep ho (fun x q => set4_other wr n 0 a' u' (by have := (row_lt ho x q).1; omega)), ownsRow_keep h.ov (fun x q => set4_other wr n 0 a' u' (by have := (row_lt h.ov x q).1; omega))⟩
  unfold set4
  simp [World.setCell, Array.getElem?_modify, h.row, arsV]
theorem OpI.set1 {Wb : World} {n : Nat} {a b : ArN} {u v : Value} {wr : World} (h : OpI Wb n a b u v wr) {b' : ArN} {v' : Value} (ho : wr.ownsRow (n + 1) 71 2 v' b'.list.length (knCs b'.list)) : OpI Wb n a b' u v' (set4 wr n 4 b' v') := by
  refine ⟨set4_below h.bel 4 b' v', ?_, ownsRow_keep h.ou (fun x q => set4_other wr n 4 b' v' (by have := (row_lt h.ou x q).1; omega)), ownsRow_keep ho (fun x q => set4_other wr n 4 b' v' (by have := (row_lt ho x q).1; omega))⟩
  unfold set4
  simp [World.setCell, Array.getElem?_modify, h.row, arsV]
/-- Area, generation, bytes and the known book set. -/
theorem cur_end {E D : Nat} {g : EgN} {d : DvN} {m v vs : Nat → Value} {w W4 w5 : World} (h : EdAt E D g d m v vs w) (c n : Nat) (A : ArN) (h4 : W4 = ((w.setCell ⟨E, 146, none⟩ (.int .i64 (c : Int))).setCell ⟨E, 147, none⟩ (.int .i64 (A.gen : Int))).setCell ⟨E, 148, none⟩ (.int .i64 (n : Int))) (hb : Below W4.heap.size W4 w5) {mv nv : Value} (hv : BoV W4.heap.size (bookL A.list) mv nv w5) (W6 : World) (h6 : W6 = (w5.setCell ⟨E, 149, none⟩ mv).setCell ⟨E, 150, none⟩ nv) :
    EdAt E D (curE g c A n) d (upd m 0 mv) (upd v 0 nv) vs W6 ∧ EdFr E D m v vs (upd m 0 mv) (upd v 0 nv) vs w W6 := by
  obtain ⟨k4, f4⟩ := h.set3 c A.gen n W4 h4
  have k5 := k4.up hb
  have hE4 := k4.eg.lt
  have hn : ∀ x, bkHas mv nv x → ¬ eHas E m v x := fun x q p => by have := (hv.has q).1; have := (k4.eg.has p).2; omega
  obtain ⟨a1, a2⟩ := k5.eg.putBook (i := 0) (by decide) (hv.base (Nat.le_of_lt hE4)) hn W6 h6
  have eo : ∀ x, eHas E (upd m 0 mv) (upd v 0 nv) x → eHas E m v x ∨ W4.heap.size ≤ x := fun x q => by
    rcases q with q | ⟨i, hi, q⟩
    · exact .inl (.inl q)
    · by_cases i0 : i = 0
      · subst i0
        rw [upd_at, upd_at] at q
        exact .inr (hv.has q).1
      · rw [upd_ne _ _ _ _ i0, upd_ne _ _ _ _ i0] at q
        exact .inl (.inr ⟨i, hi, q⟩)
  have hc : Chg (eHas E m v) W4 W6 := (Chg.of_below hb).trans (fun x q => .inl q) (a2.weak (fun x q => .inl (.inl q)))
  obtain ⟨r1, r2⟩ := k4.egs a1 hc eo
  exact ⟨r1, f4.trans r2⟩
set_option maxRecDepth 100000 in
set_option maxHeartbeats 8000000 in
theorem open_any (E D : Nat) (g : EgN) (d : DvN) (m v vs : Nat → Value) (w : World) (h : EdAt E D g d m v vs w) (ht : Tab w) (hok : EgOK g) :
    Calls Tryz.prog 73 #[.pointer (some ⟨E, 0, none⟩)] w (EPost E D m v vs w (openE dOps g d).1 (openE dOps g d).2.1 (openE dOps g d).2.2) := by
  have HRd := hide (readAreas_any E D g d m v vs w h)
  have hln := readE_len (g := g) (d := d) h.dv.len
  have hgg := readE_ok (g := g) (d := d)
  have HTb : Hid (∀ m' v' vs' w', EdFr E D m v vs m' v' vs' w w' → Tab w') := fun m' v' vs' w' hf => h.tab ht hf
  have HOk := hide hok
  unfold openE
  generalize readE dOps g d = R at *
  obtain ⟨n, g1, d1, t0, t1⟩ := R
  simp only at HRd hln hgg ⊢
  clear h ht hok
  by_cases hn : n = 0
  · subst hn
    rw [if_pos rfl]
    obtain rfl := hgg rfl
    clear hgg
    obtain ⟨hl0, hl1⟩ := hln
    obtain ⟨hA0, hG0⟩ := scan_ok t0
    obtain ⟨hA1, hG1⟩ := scan_ok t1
    have HA0 := hide hA0; have HA1 := hide hA1
    have hf0 := scan_few t0; have hf1 := scan_few t1
    have HSc0 : Hid (∀ w', Tab w' → Calls Tryz.prog 128 #[.string (bya t0)] w' (ScanPost (bya t0) w')) := fun w' ht' => frScan_any (bya t0) w' ht' (by rw [bya_size]; omega) (by rw [lst_bya]; omega)
    have HSc1 : Hid (∀ w', Tab w' → Calls Tryz.prog 128 #[.string (bya t1)] w' (ScanPost (bya t1) w')) := fun w' ht' => frScan_any (bya t1) w' ht' (by rw [bya_size]; omega) (by rw [lst_bya]; omega)
    have HF0 : Hid ((scan t0).list.length ≤ 1500) := Nat.le_trans hf0 hl0
    have HF1 : Hid ((scan t1).list.length ≤ 1500) := Nat.le_trans hf1 hl1
    have ix0 := idx_t0; have ix1 := idx_t1
    have HZ0 : Hid ((bya t0).size = t0.length) := bya_size _
    have HZ1 : Hid ((bya t1).size = t1.length) := bya_size _
    have HFi : Hid (∀ r, findE dOps g1 d1 t0 t1 = r → findE dOps g1 d1 t0 t1 = r) := fun _ h => h
    obtain ⟨RR, hRR⟩ : ∃ RR, RR = findE dOps g1 d1 t0 t1 := ⟨_, rfl⟩
    rw [← hRR]
    have HRR := hide hRR
    clear hRR hA0 hA1 hG0 hG1 hl0 hl1 hf0 hf1 HFi
    go_enter Tryz.func73, Tryz.ntmps73
    go_wp2_with fail
    refine (unhide HRd).mono ?_
    rintro e w1 ⟨s0, s1, rfl, hst, m1, v1, vs1, k1, f1⟩
    obtain ⟨rfl, rfl⟩ := hst rfl
    have HK1 := hide k1; have HFr1 := hide f1
    obtain ⟨Wb, hWb⟩ : ∃ Wb, Wb = w1.alloc (.cells #[.string (bya t0), .string (bya t1)] 180) := ⟨_, rfl⟩
    have hz1 : Wb.heap.size = w1.heap.size + 1 := by rw [hWb, size_alloc1]
    have hbb : Below w1.heap.size w1 Wb := by rw [hWb]; exact (Below.refl _ _).alloc (Nat.le_refl _) _
    have rb : Wb.heap[w1.heap.size]? = some (.cells #[.string (bya t0), .string (bya t1)] 180 (0, 0)) := by rw [hWb, _root_.Go.heap_alloc_new]
    obtain ⟨Wc, hWc⟩ : ∃ Wc, Wc = Wb.alloc (.cells (arsV ar0 ar0 (.slice none 0 0) (.slice none 0 0)) 185) := ⟨_, rfl⟩
    have HO0 : Hid (OpI Wb (w1.heap.size + 1) ar0 ar0 (.slice none 0 0) (.slice none 0 0) Wc) := by
      unfold Hid
      rw [← hz1]
      refine ⟨by rw [hWc]; exact (Below.refl _ _).alloc (Nat.le_refl _) _, by rw [hWc, _root_.Go.heap_alloc_new], World.ownsRow_nil _ _ _ _, World.ownsRow_nil _ _ _ _⟩
    have HTw : Hid (∀ a b u x wr, OpI Wb (w1.heap.size + 1) a b u x wr → Tab wr ∧ EdAt E D g1 d1 m1 v1 vs1 wr ∧ EdFr E D m v vs m1 v1 vs1 w wr ∧ wr.heap[w1.heap.size]? = some (.cells #[.string (bya t0), .string (bya t1)] 180 (0, 0))) := fun a b u x wr hI => by
      have hb : Below w1.heap.size w1 wr := hbb.trans (hI.bel.mono (Nat.le_succ _))
      have hf := f1.trans (EdFr.of_below hb)
      exact ⟨HTb.out _ _ _ _ hf, k1.up hb, hf, (hI.bel.block _ (Nat.lt_succ_self _)).trans rb⟩
    have HZb := hide hz1; have HBb := hide hbb; have HRb := hide rb; have HWb := hide hWb; have HWc := hide hWc
    clear k1 f1 hst hz1 hbb rb hWb hWc HRd
    unfold txV
    go_wp2_with fail
    rw [show ((w1.alloc (Obj.cells #[Value.string (bya t0), Value.string (bya t1)] 180)).alloc (Obj.cells #[Value.int IntKind.i64 0, Value.bool false, Value.int IntKind.i64 0, Value.slice none 0 0, Value.int IntKind.i64 0, Value.bool false, Value.int IntKind.i64 0, Value.slice none 0 0] 185)) = Wc from by rw [HWc.out, HWb.out]; rfl]
    go_loopw [20] (fun i wr => ∃ a b u x, Hid (OpI Wb (w1.heap.size + 1) a b u x wr) ∧ ((i = .int .i64 0 ∧ a = ar0 ∧ b = ar0) ∨ (i = .int .i64 1 ∧ a = scan t0 ∧ b = ar0) ∨ (i = .int .i64 2 ∧ a = scan t0 ∧ b = scan t1))) (fun i _ => 2 - (intOf i).toNat)
    case atStart => exact ⟨ar0, ar0, _, _, HO0.out, .inl ⟨rfl, rfl, rfl⟩⟩
    case round =>
      obtain ⟨a, b, u, x, HI, ⟨rfl, rfl, rfl⟩ | ⟨rfl, rfl, rfl⟩ | ⟨rfl, rfl, rfl⟩⟩ := hrel
      · have HS := hide (HSc0.out wr (HTw.out _ _ _ _ _ HI.out).1)
        go_wp2_with fail
        refine (unhide HS).mono ?_
        rintro e w2 ⟨hb2, y, rfl, hy⟩
        rw [lst_bya] at hy ⊢
        have HI2 := hide (HI.out.up hb2)
        have HI3 := hide (HI2.out.set0 (a' := scan t0) (own_base hy HI.out.lt))
        obtain ⟨⟨c0, c1, c2, c3⟩, _, fz⟩ := HI2.out.cells
        have z0 := fz 0; have z1 := fz 1; have z2 := fz 2; have z3 := fz 3
        obtain ⟨ya, yc, rfl⟩ := owns_len hy
        clear hb2 hy fz HS
        generalize (scan t0).list.length = L0 at *
        unfold arV
        go_wp2_with fail
        exact ⟨⟨_, _, _, _, HI3.out, .inr (.inl ⟨rfl, rfl, rfl⟩)⟩, by simp [intOf]⟩
      · have HS := hide (HSc1.out wr (HTw.out _ _ _ _ _ HI.out).1)
        go_wp2_with fail
        refine (unhide HS).mono ?_
        rintro e w2 ⟨hb2, y, rfl, hy⟩
        rw [lst_bya] at hy ⊢
        have HI2 := hide (HI.out.up hb2)
        have HI3 := hide (HI2.out.set1 (b' := scan t1) (own_base hy HI.out.lt))
        obtain ⟨_, ⟨c0, c1, c2, c3⟩, fz⟩ := HI2.out.cells
        have z0 := fz 4; have z1 := fz 5; have z2 := fz 6; have z3 := fz 7
        obtain ⟨ya, yc, rfl⟩ := owns_len hy
        clear hb2 hy fz HS
        generalize (scan t1).list.length = L0 at *
        unfold arV
        go_wp2_with fail
        exact ⟨⟨_, _, _, _, HI3.out, .inr (.inr ⟨rfl, rfl, rfl⟩)⟩, by simp [intOf]⟩
      · obtain ⟨ua, uc, rfl⟩ := owns_len HI.out.ou
        obtain ⟨va, vc, rfl⟩ := owns_len HI.out.ov
        have HCu := hide (currentOf_any (scan t0) (scan t1) ua (scan t0).list.length uc va (scan t1).list.length vc wr)
        have rI := HI.out.row
        by_cases hc : (cur2 (scan t0) (scan t1)).2 = 0
        · have hcd : decide (0 < (cur2 (scan t0) (scan t1)).2) = false := by rw [hc]; rfl
          rw [hcd] at HCu
          have HR1 : Hid (RR = anewE dOps { g1 with ar := 1 } d1 0) := by unfold Hid; rw [HRR.out]; unfold findE; rw [if_pos hc]
          generalize cur2 (scan t0) (scan t1) = C at *
          clear hc hcd
          go_wp2_with (refine wpList_load_row rfl 185 _ rfl (w1.heap.size + 1) rfl 185 (arsV (scan t0) (scan t1) _ _) (0, 0) _ rI Tryz.underlying185 rfl sizeAs ?_)
          refine (unhide HCu).mono ?_
          rintro e w2 ⟨rfl, hb2⟩
          obtain ⟨q1, q2, q3, q4⟩ := HTw.out _ _ _ _ _ (HI.out.up hb2)
          obtain ⟨k2, f2⟩ := q2.set 146 (.inr (by decide)) { g1 with ar := 1 } rfl rfl (scV_ar D g1 1) (.int .i64 1) rfl
          have c146 := q2.eg.sc 146 (.inr (by decide)); have f146 := q2.eg.fz 146
          have HK2 := hide k2; have HF2 := hide (q3.trans f2)
          have HWr := hide (writeAnew_any E D _ d1 m1 v1 vs1 _ k2 (HTb.out _ _ _ _ HF2.out) ⟨Nat.le_refl _, HOk.out.gn, HOk.out.few, HOk.out.sh⟩)
          generalize scV D g1 146 = u146 at *
          clear hb2 q1 q2 q3 q4 k2 f2 HCu
          go_wp2_with fail
          refine (unhide HWr).mono ?_
          rintro e w3 ⟨rfl, m3, v3, vs3, k3, f3⟩
          have HK3 := hide k3; have HF3 := hide (HF2.out.trans f3)
          clear k3 f3 HWr
          go_wp2_with fail
          go_ret
          rw [HR1.out]
          exact ⟨rfl, m3, v3, vs3, HK3.out, HF3.out⟩
        · rcases cur2_cases (scan t0) (scan t1) with hcc | hcc
          · have HC : Hid (cur2 (scan t0) (scan t1) = (1, (scan t1).gen)) := hcc
            have hR1 : findE dOps g1 d1 t0 t1 = (if (scan t1).good < t1.length then anewE dOps (curE g1 1 (scan t1) t1.length) d1 0 else (0, curE g1 1 (scan t1) t1.length, d1)) := by unfold findE; rw [if_neg hc, hcc]; rfl
            have HR1 := hide (HRR.out.trans hR1)
            have hcd : decide (0 < (cur2 (scan t0) (scan t1)).2) = true := decide_eq_true (Nat.pos_of_ne_zero hc)
            rw [hcd, hcc] at HCu
            simp only at HCu
            clear hcd hc hcc hR1
            go_wp2_with (refine wpList_load_row rfl 185 _ rfl (w1.heap.size + 1) rfl 185 (arsV (scan t0) (scan t1) _ _) (0, 0) _ rI Tryz.underlying185 rfl sizeAs ?_)
            refine (unhide HCu).mono ?_
            rintro e w2 ⟨rfl, hb2⟩
            have HI2 := hide (HI.out.up hb2)
            obtain ⟨q1, q2, q3, q4⟩ := HTw.out _ _ _ _ _ HI2.out
            have HT2 := hide q1; have HK2 := hide q2; have HF2 := hide q3
            have hz2 : w1.heap.size + 1 < w2.heap.size := HI2.out.lt
            obtain ⟨⟨c0, c1, c2, c3⟩, ⟨c4, c5, c6, c7⟩, _⟩ := HI2.out.cells
            have x1 : w2.cell? ⟨w1.heap.size, 1, none⟩ = some (.string (bya t1)) := cell_row q4 1
            have HOw : Hid (w2.ownsRow (w1.heap.size + 1 + 1) 71 2 (.slice va (scan t1).list.length vc) (scan t1).list.length (knCs (scan t1).list)) := HI2.out.ov
            have HBo : Hid (∀ w', Tab w' → w'.ownsRow (w1.heap.size + 1 + 1) 71 2 (.slice va (scan t1).list.length vc) (scan t1).list.length (knCs (scan t1).list) → Calls Tryz.prog 130 #[.slice va (scan t1).list.length vc] w' (BkPost (bookL (scan t1).list) w')) := fun w' ht' ho => bookOf_any _ _ _ w' ht' ho (fun y hy => blk_sh (HA1.out.sh y hy).1) (by have := HF1.out; omega)
            have hEz : E < w2.heap.size := q2.eg.lt
            clear hb2 q1 q2 q3 q4 HCu
            have HOk6 := hide (curE_ok HOk.out (c := 1) (by decide) HA1.out HF1.out (bya t1).size)
            generalize hL0 : (scan t1).list.length = L0 at *
            clear hL0
            go_upto_region 15 with fail
            obtain ⟨W3, hW3⟩ : ∃ W3, W3 = w2.alloc (.cells #[.int .i64 ((scan t1).gen : Int), .bool (scan t1).whole, .int .i64 ((scan t1).good : Int), .slice va L0 vc] 184) := ⟨_, rfl⟩
            rw [← hW3]
            have hb3 : Below w2.heap.size w2 W3 := by rw [hW3]; exact (Below.refl _ _).alloc (Nat.le_refl _) _
            have r3 : W3.heap[w2.heap.size]? = some (.cells #[.int .i64 ((scan t1).gen : Int), .bool (scan t1).whole, .int .i64 ((scan t1).good : Int), .slice va L0 vc] 184 (0, 0)) := by rw [hW3, _root_.Go.heap_alloc_new]
            have HT3 := hide (HT2.out.below HT2.out.pos hb3)
            have HK3 := hide (HK2.out.up hb3); have HF3 := hide (HF2.out.trans (EdFr.of_below hb3))
            have HOw3 := hide (own_grow HOw.out hb3)
            have y0 : W3.cell? ⟨w2.heap.size, 0, none⟩ = some (.int .i64 ((scan t1).gen : Int)) := cell_row r3 0
            have y2 : W3.cell? ⟨w2.heap.size, 2, none⟩ = some (.int .i64 ((scan t1).good : Int)) := cell_row r3 2
            have y3 : W3.cell? ⟨w2.heap.size, 3, none⟩ = some (.slice va L0 vc) := cell_row r3 3
            have x3 : W3.cell? ⟨w1.heap.size, 1, none⟩ = some (.string (bya t1)) := (World.cell?_of_block (hb3.block _ (Nat.lt_of_succ_lt hz2))).trans x1
            have hz3 : w2.heap.size < W3.heap.size := (Array.getElem?_eq_some_iff.1 r3).1
            have hE1 : E < w1.heap.size := HK1.out.eg.lt
            have n1 : E ≠ w1.heap.size := by omega
            have n2 : E ≠ w2.heap.size := by omega
            have g146 := HK3.out.eg.sc 146 (.inr (by decide)); have g147 := HK3.out.eg.sc 147 (.inr (by decide)); have g148 := HK3.out.eg.sc 148 (.inr (by decide))
            have z146 := HK3.out.eg.fz 146; have z147 := HK3.out.eg.fz 147; have z148 := HK3.out.eg.fz 148
            generalize scV D g1 146 = u146 at *
            generalize scV D g1 147 = u147 at *
            generalize scV D g1 148 = u148 at *
            have kk : ∀ (W : World) (j : Nat) (z : Value), (W.cell? ⟨w2.heap.size, 0, none⟩ = some (.int .i64 ((scan t1).gen : Int)) ∧ W.cell? ⟨w1.heap.size, 1, none⟩ = some (.string (bya t1))) → ((W.setCell ⟨E, j, none⟩ z).cell? ⟨w2.heap.size, 0, none⟩ = some (.int .i64 ((scan t1).gen : Int)) ∧ (W.setCell ⟨E, j, none⟩ z).cell? ⟨w1.heap.size, 1, none⟩ = some (.string (bya t1))) := fun W j z q => ⟨(World.cell?_of_block (set_other (fun e => n2 e.symm))).trans q.1, (World.cell?_of_block (set_other (fun e => n1 e.symm))).trans q.2⟩
            have HKK := hide kk
            have HR3 := hide r3
            clear c0 c1 c2 c3 c4 c5 c6 c7 x1 hb3 r3 hW3 kk rI
            refine held_tail 10 9 (fun w' => w'.cell? ⟨w2.heap.size, 0, none⟩ = some (.int .i64 ((scan t1).gen : Int)) ∧ w'.cell? ⟨w1.heap.size, 1, none⟩ = some (.string (bya t1))) (by kernel_rfl) (by kernel_rfl) (fun d _ _ _ _ h => by cases d <;> exact h) ⟨y0, x3⟩ ?_
            simp only [List.take_succ_cons, List.take_zero, List.drop_succ_cons, List.drop_zero]
            iterate 10
              refine wpTake_step ?_ rfl ?_ ?_
              rotate_left
              · rintro w' ⟨e1, e2⟩
                go_simp
                rfl
              go_simp
            refine wpTake_nil ?_
            iterate 2
              refine wpTail_step rfl (fun K hK => ?_)
              go_simp
              refine hK _ _ ⟨y0, x3⟩ ?_
              clear hK K
            refine wpTail_step rfl (fun K hK => ?_)
            go_simp
            refine hK _ _ (HKK.out _ _ _ ⟨y0, x3⟩) ?_
            clear hK K
            iterate 2
              refine wpTail_step rfl (fun K hK => ?_)
              go_simp
              refine hK _ _ (HKK.out _ _ _ ⟨y0, x3⟩) ?_
              clear hK K
            refine wpTail_step rfl (fun K hK => ?_)
            go_simp
            refine hK _ _ (HKK.out _ _ _ (HKK.out _ _ _ ⟨y0, x3⟩)) ?_
            clear hK K
            iterate 2
              refine wpTail_step rfl (fun K hK => ?_)
              go_simp
              refine hK _ _ (HKK.out _ _ _ (HKK.out _ _ _ ⟨y0, x3⟩)) ?_
              clear hK K
            refine wpTail_step rfl (fun K hK => ?_)
            go_simp
            refine hK _ _ (HKK.out _ _ _ (HKK.out _ _ _ (HKK.out _ _ _ ⟨y0, x3⟩))) ?_
            clear hK K
            unfold wpTailS
            obtain ⟨W4, hW4⟩ : ∃ W4, W4 = ((W3.drew.setCell ⟨E, 146, none⟩ (.int .i64 1)).setCell ⟨E, 147, none⟩ (.int .i64 ((scan t1).gen : Int))).setCell ⟨E, 148, none⟩ (.int .i64 ((bya t1).size : Int)) := ⟨_, rfl⟩
            rw [show ((((W3.setCell ⟨E, 146, none⟩ (.int .i64 1)).setCell ⟨E, 147, none⟩ (.int .i64 ((scan t1).gen : Int))).setCell ⟨E, 148, none⟩ (.int .i64 ((bya t1).size : Int))).drew) = W4 from by rw [hW4]; rfl]
            have o4 : ∀ x, x ≠ E → W4.heap[x]? = W3.heap[x]? := fun x hx => by rw [hW4, set_other hx, set_other hx, set_other hx]; rfl
            have k3d : EdAt E D g1 d1 m1 v1 vs1 W3.drew := HK3.out.up ((Below.refl _ _).drew)
            obtain ⟨k4, f4⟩ := k3d.set3 1 (scan t1).gen (bya t1).size W4 hW4
            have f4' := (HF3.out.trans (EdFr.of_below ((Below.refl _ _).drew))).trans f4
            have HBk := hide (HBo.out W4 (HTb.out _ _ _ _ f4') (ownsRow_keep HOw3.out (fun x q => o4 x (by have := (row_lt HOw3.out x q).1; omega))))
            have HK3d := hide k3d; have HW4 := hide hW4; have HO4 := hide o4; have HF3d := hide (HF3.out.trans (EdFr.of_below ((Below.refl W3.heap.size W3).drew)))
            have y34 : W4.cell? ⟨w2.heap.size, 3, none⟩ = some (.slice va L0 vc) := (World.cell?_of_block (o4 _ (fun e => n2 e.symm))).trans y3
            have HY2 : Hid (W4.heap[w2.heap.size]? = W3.heap[w2.heap.size]?) := o4 _ (fun e => n2 e.symm)
            have hz4 : w2.heap.size < W4.heap.size := by rw [hW4, set_size, set_size, set_size]; exact hz3
            have hE4 : E < W4.heap.size := k4.eg.lt
            have HK4 := hide k4
            clear k3d k4 f4 f4' hW4 o4 y0 y3 x3 g146 g147 g148 z146 z147 z148 HBo HKK
            go_wp2_with fail
            refine (unhide HBk).mono ?_
            rintro e w5 ⟨mv, nv, rfl, hbv, hb5⟩
            have HCe := hide (fun W6 => cur_end HK3d.out 1 (bya t1).size (scan t1) HW4.out hb5 hbv W6)
            have k5 := HK4.out.up hb5
            have c149 := (k5.eg.bk 0 (by decide)).c0; have c150 := (k5.eg.bk 0 (by decide)).c1
            have z149 := k5.eg.fz 149; have z150 := k5.eg.fz 150
            have y25 : w5.heap[w2.heap.size]? = W3.heap[w2.heap.size]? := (hb5.block _ hz4).trans HY2.out
            obtain ⟨ob, rfl⟩ := hbv.map
            obtain ⟨xa, xc, rfl⟩ := owns_len hbv.ls
            obtain ⟨W6, hW6⟩ : ∃ W6, W6 = (w5.setCell ⟨E, 149, none⟩ (.map ob)).setCell ⟨E, 150, none⟩ (.slice xa (bookL (scan t1).list).length xc) := ⟨_, rfl⟩
            have HW6 := hide hW6
            obtain ⟨k6, f6⟩ := HCe.out W6 hW6
            have y26 : W6.cell? ⟨w2.heap.size, 2, none⟩ = some (.int .i64 ((scan t1).good : Int)) := (World.cell?_of_block (by rw [hW6, set_other (fun e => n2 e.symm), set_other (fun e => n2 e.symm)]; exact y25)).trans y2
            have c148 : W6.cell? ⟨E, 148, none⟩ = some (.int .i64 ((bya t1).size : Int)) := k6.eg.sc 148 (.inr (by decide))
            have HF6 := hide (HF3d.out.trans f6)
            have HK6 := hide k6
            clear hbv hb5 k5 y25 k6 f6 hW6 y2 y34 HBk HCe
            generalize m1 0 = M0 at c149
            generalize v1 0 = V0 at c150
            go_upto_region 17 with fail
            rw [← HW6.out]
            by_cases hgd : (scan t1).good < t1.length
            · have hgd' : ((scan t1).good : Int) < ((bya t1).size : Int) := by rw [HZ1.out]; omega
              have HR2 : Hid (RR = anewE dOps (curE g1 1 (scan t1) (bya t1).size) d1 0) := by unfold Hid; rw [HR1.out, if_pos hgd, HZ1.out]
              clear hgd
              go_quiet (fail)
              go_wp2_with fail
              have HWr := hide (writeAnew_any E D _ d1 _ _ _ _ (HK6.out.drewN nq) (HTb.out _ _ _ _ (HF6.out.trans (EdFr.of_below (below_drewN (Below.refl _ _) nq)))) HOk6.out)
              refine (unhide HWr).mono ?_
              rintro e w7 ⟨rfl, m7, v7, vs7, k7, f7⟩
              have HK7 := hide k7; have HF7 := hide ((HF6.out.trans (EdFr.of_below (below_drewN (Below.refl _ _) nq))).trans f7)
              clear k7 f7 HWr
              go_wp2_with fail
              go_ret
              rw [HR2.out]
              exact ⟨rfl, m7, v7, vs7, HK7.out, HF7.out⟩
            · have hgd' : ¬ ((scan t1).good : Int) < ((bya t1).size : Int) := by rw [HZ1.out]; omega
              have HR2 : Hid (RR = (0, curE g1 1 (scan t1) (bya t1).size, d1)) := by unfold Hid; rw [HR1.out, if_neg hgd, HZ1.out]
              clear hgd
              go_quiet (fail)
              go_wp2_with fail
              go_ret
              rw [HR2.out]
              exact ⟨rfl, _, _, _, HK6.out.drewN _, HF6.out.trans (EdFr.of_below (below_drewN (Below.refl _ _) _))⟩
          · have HC : Hid (cur2 (scan t0) (scan t1) = (0, cur1 (scan t0))) := hcc
            have hR1 : findE dOps g1 d1 t0 t1 = (if (scan t0).good < t0.length then anewE dOps (curE g1 0 (scan t0) t0.length) d1 1 else (0, curE g1 0 (scan t0) t0.length, d1)) := by unfold findE; rw [if_neg hc, hcc]; rfl
            have HR1 := hide (HRR.out.trans hR1)
            have hcd : decide (0 < (cur2 (scan t0) (scan t1)).2) = true := decide_eq_true (Nat.pos_of_ne_zero hc)
            rw [hcd, hcc] at HCu
            simp only at HCu
            clear hcd hc hcc hR1
            go_wp2_with (refine wpList_load_row rfl 185 _ rfl (w1.heap.size + 1) rfl 185 (arsV (scan t0) (scan t1) _ _) (0, 0) _ rI Tryz.underlying185 rfl sizeAs ?_)
            refine (unhide HCu).mono ?_
            rintro e w2 ⟨rfl, hb2⟩
            have HI2 := hide (HI.out.up hb2)
            obtain ⟨q1, q2, q3, q4⟩ := HTw.out _ _ _ _ _ HI2.out
            have HT2 := hide q1; have HK2 := hide q2; have HF2 := hide q3
            have hz2 : w1.heap.size + 1 < w2.heap.size := HI2.out.lt
            obtain ⟨⟨c0, c1, c2, c3⟩, ⟨c4, c5, c6, c7⟩, _⟩ := HI2.out.cells
            have x1 : w2.cell? ⟨w1.heap.size, 0, none⟩ = some (.string (bya t0)) := cell_row q4 0
            have HOw : Hid (w2.ownsRow (w1.heap.size + 1 + 1) 71 2 (.slice ua (scan t0).list.length uc) (scan t0).list.length (knCs (scan t0).list)) := HI2.out.ou
            have HBo : Hid (∀ w', Tab w' → w'.ownsRow (w1.heap.size + 1 + 1) 71 2 (.slice ua (scan t0).list.length uc) (scan t0).list.length (knCs (scan t0).list) → Calls Tryz.prog 130 #[.slice ua (scan t0).list.length uc] w' (BkPost (bookL (scan t0).list) w')) := fun w' ht' ho => bookOf_any _ _ _ w' ht' ho (fun y hy => blk_sh (HA0.out.sh y hy).1) (by have := HF0.out; omega)
            have hEz : E < w2.heap.size := q2.eg.lt
            clear hb2 q1 q2 q3 q4 HCu
            have HOk6 := hide (curE_ok HOk.out (c := 0) (by decide) HA0.out HF0.out (bya t0).size)
            generalize hL0 : (scan t0).list.length = L0 at *
            clear hL0
            go_upto_region 15 with fail
            obtain ⟨W3, hW3⟩ : ∃ W3, W3 = w2.alloc (.cells #[.int .i64 ((scan t0).gen : Int), .bool (scan t0).whole, .int .i64 ((scan t0).good : Int), .slice ua L0 uc] 184) := ⟨_, rfl⟩
            rw [← hW3]
            have hb3 : Below w2.heap.size w2 W3 := by rw [hW3]; exact (Below.refl _ _).alloc (Nat.le_refl _) _
            have r3 : W3.heap[w2.heap.size]? = some (.cells #[.int .i64 ((scan t0).gen : Int), .bool (scan t0).whole, .int .i64 ((scan t0).good : Int), .slice ua L0 uc] 184 (0, 0)) := by rw [hW3, _root_.Go.heap_alloc_new]
            have HT3 := hide (HT2.out.below HT2.out.pos hb3)
            have HK3 := hide (HK2.out.up hb3); have HF3 := hide (HF2.out.trans (EdFr.of_below hb3))
            have HOw3 := hide (own_grow HOw.out hb3)
            have y0 : W3.cell? ⟨w2.heap.size, 0, none⟩ = some (.int .i64 ((scan t0).gen : Int)) := cell_row r3 0
            have y2 : W3.cell? ⟨w2.heap.size, 2, none⟩ = some (.int .i64 ((scan t0).good : Int)) := cell_row r3 2
            have y3 : W3.cell? ⟨w2.heap.size, 3, none⟩ = some (.slice ua L0 uc) := cell_row r3 3
            have x3 : W3.cell? ⟨w1.heap.size, 0, none⟩ = some (.string (bya t0)) := (World.cell?_of_block (hb3.block _ (Nat.lt_of_succ_lt hz2))).trans x1
            have hz3 : w2.heap.size < W3.heap.size := (Array.getElem?_eq_some_iff.1 r3).1
            have hE1 : E < w1.heap.size := HK1.out.eg.lt
            have n1 : E ≠ w1.heap.size := by omega
            have n2 : E ≠ w2.heap.size := by omega
            have g146 := HK3.out.eg.sc 146 (.inr (by decide)); have g147 := HK3.out.eg.sc 147 (.inr (by decide)); have g148 := HK3.out.eg.sc 148 (.inr (by decide))
            have z146 := HK3.out.eg.fz 146; have z147 := HK3.out.eg.fz 147; have z148 := HK3.out.eg.fz 148
            generalize scV D g1 146 = u146 at *
            generalize scV D g1 147 = u147 at *
            generalize scV D g1 148 = u148 at *
            have kk : ∀ (W : World) (j : Nat) (z : Value), (W.cell? ⟨w2.heap.size, 0, none⟩ = some (.int .i64 ((scan t0).gen : Int)) ∧ W.cell? ⟨w1.heap.size, 0, none⟩ = some (.string (bya t0))) → ((W.setCell ⟨E, j, none⟩ z).cell? ⟨w2.heap.size, 0, none⟩ = some (.int .i64 ((scan t0).gen : Int)) ∧ (W.setCell ⟨E, j, none⟩ z).cell? ⟨w1.heap.size, 0, none⟩ = some (.string (bya t0))) := fun W j z q => ⟨(World.cell?_of_block (set_other (fun e => n2 e.symm))).trans q.1, (World.cell?_of_block (set_other (fun e => n1 e.symm))).trans q.2⟩
            have HKK := hide kk
            have HR3 := hide r3
            clear c0 c1 c2 c3 c4 c5 c6 c7 x1 hb3 r3 hW3 kk rI
            refine held_tail 10 9 (fun w' => w'.cell? ⟨w2.heap.size, 0, none⟩ = some (.int .i64 ((scan t0).gen : Int)) ∧ w'.cell? ⟨w1.heap.size, 0, none⟩ = some (.string (bya t0))) (by kernel_rfl) (by kernel_rfl) (fun d _ _ _ _ h => by cases d <;> exact h) ⟨y0, x3⟩ ?_
            simp only [List.take_succ_cons, List.take_zero, List.drop_succ_cons, List.drop_zero]
            iterate 10
              refine wpTake_step ?_ rfl ?_ ?_
              rotate_left
              · rintro w' ⟨e1, e2⟩
                go_simp
                rfl
              go_simp
            refine wpTake_nil ?_
            iterate 2
              refine wpTail_step rfl (fun K hK => ?_)
              go_simp
              refine hK _ _ ⟨y0, x3⟩ ?_
              clear hK K
            refine wpTail_step rfl (fun K hK => ?_)
            go_simp
            refine hK _ _ (HKK.out _ _ _ ⟨y0, x3⟩) ?_
            clear hK K
            iterate 2
              refine wpTail_step rfl (fun K hK => ?_)
              go_simp
              refine hK _ _ (HKK.out _ _ _ ⟨y0, x3⟩) ?_
              clear hK K
            refine wpTail_step rfl (fun K hK => ?_)
            go_simp
            refine hK _ _ (HKK.out _ _ _ (HKK.out _ _ _ ⟨y0, x3⟩)) ?_
            clear hK K
            iterate 2
              refine wpTail_step rfl (fun K hK => ?_)
              go_simp
              refine hK _ _ (HKK.out _ _ _ (HKK.out _ _ _ ⟨y0, x3⟩)) ?_
              clear hK K
            refine wpTail_step rfl (fun K hK => ?_)
            go_simp
            refine hK _ _ (HKK.out _ _ _ (HKK.out _ _ _ (HKK.out _ _ _ ⟨y0, x3⟩))) ?_
            clear hK K
            unfold wpTailS
            obtain ⟨W4, hW4⟩ : ∃ W4, W4 = ((W3.drew.setCell ⟨E, 146, none⟩ (.int .i64 0)).setCell ⟨E, 147, none⟩ (.int .i64 ((scan t0).gen : Int))).setCell ⟨E, 148, none⟩ (.int .i64 ((bya t0).size : Int)) := ⟨_, rfl⟩
            rw [show ((((W3.setCell ⟨E, 146, none⟩ (.int .i64 0)).setCell ⟨E, 147, none⟩ (.int .i64 ((scan t0).gen : Int))).setCell ⟨E, 148, none⟩ (.int .i64 ((bya t0).size : Int))).drew) = W4 from by rw [hW4]; rfl]
            have o4 : ∀ x, x ≠ E → W4.heap[x]? = W3.heap[x]? := fun x hx => by rw [hW4, set_other hx, set_other hx, set_other hx]; rfl
            have k3d : EdAt E D g1 d1 m1 v1 vs1 W3.drew := HK3.out.up ((Below.refl _ _).drew)
            obtain ⟨k4, f4⟩ := k3d.set3 0 (scan t0).gen (bya t0).size W4 hW4
            have f4' := (HF3.out.trans (EdFr.of_below ((Below.refl _ _).drew))).trans f4
            have HBk := hide (HBo.out W4 (HTb.out _ _ _ _ f4') (ownsRow_keep HOw3.out (fun x q => o4 x (by have := (row_lt HOw3.out x q).1; omega))))
            have HK3d := hide k3d; have HW4 := hide hW4; have HO4 := hide o4; have HF3d := hide (HF3.out.trans (EdFr.of_below ((Below.refl W3.heap.size W3).drew)))
            have y34 : W4.cell? ⟨w2.heap.size, 3, none⟩ = some (.slice ua L0 uc) := (World.cell?_of_block (o4 _ (fun e => n2 e.symm))).trans y3
            have HY2 : Hid (W4.heap[w2.heap.size]? = W3.heap[w2.heap.size]?) := o4 _ (fun e => n2 e.symm)
            have hz4 : w2.heap.size < W4.heap.size := by rw [hW4, set_size, set_size, set_size]; exact hz3
            have hE4 : E < W4.heap.size := k4.eg.lt
            have HK4 := hide k4
            clear k3d k4 f4 f4' hW4 o4 y0 y3 x3 g146 g147 g148 z146 z147 z148 HBo HKK
            go_wp2_with fail
            refine (unhide HBk).mono ?_
            rintro e w5 ⟨mv, nv, rfl, hbv, hb5⟩
            have HCe := hide (fun W6 => cur_end HK3d.out 0 (bya t0).size (scan t0) HW4.out hb5 hbv W6)
            have k5 := HK4.out.up hb5
            have c149 := (k5.eg.bk 0 (by decide)).c0; have c150 := (k5.eg.bk 0 (by decide)).c1
            have z149 := k5.eg.fz 149; have z150 := k5.eg.fz 150
            have y25 : w5.heap[w2.heap.size]? = W3.heap[w2.heap.size]? := (hb5.block _ hz4).trans HY2.out
            obtain ⟨ob, rfl⟩ := hbv.map
            obtain ⟨xa, xc, rfl⟩ := owns_len hbv.ls
            obtain ⟨W6, hW6⟩ : ∃ W6, W6 = (w5.setCell ⟨E, 149, none⟩ (.map ob)).setCell ⟨E, 150, none⟩ (.slice xa (bookL (scan t0).list).length xc) := ⟨_, rfl⟩
            have HW6 := hide hW6
            obtain ⟨k6, f6⟩ := HCe.out W6 hW6
            have y26 : W6.cell? ⟨w2.heap.size, 2, none⟩ = some (.int .i64 ((scan t0).good : Int)) := (World.cell?_of_block (by rw [hW6, set_other (fun e => n2 e.symm), set_other (fun e => n2 e.symm)]; exact y25)).trans y2
            have c148 : W6.cell? ⟨E, 148, none⟩ = some (.int .i64 ((bya t0).size : Int)) := k6.eg.sc 148 (.inr (by decide))
            have HF6 := hide (HF3d.out.trans f6)
            have HK6 := hide k6
            clear hbv hb5 k5 y25 k6 f6 hW6 y2 y34 HBk HCe
            generalize m1 0 = M0 at c149
            generalize v1 0 = V0 at c150
            go_upto_region 17 with fail
            rw [← HW6.out]
            by_cases hgd : (scan t0).good < t0.length
            · have hgd' : ((scan t0).good : Int) < ((bya t0).size : Int) := by rw [HZ0.out]; omega
              have HR2 : Hid (RR = anewE dOps (curE g1 0 (scan t0) (bya t0).size) d1 1) := by unfold Hid; rw [HR1.out, if_pos hgd, HZ0.out]
              clear hgd
              go_quiet (fail)
              go_wp2_with fail
              have HWr := hide (writeAnew_any E D _ d1 _ _ _ _ (HK6.out.drewN nq) (HTb.out _ _ _ _ (HF6.out.trans (EdFr.of_below (below_drewN (Below.refl _ _) nq)))) HOk6.out)
              refine (unhide HWr).mono ?_
              rintro e w7 ⟨rfl, m7, v7, vs7, k7, f7⟩
              have HK7 := hide k7; have HF7 := hide ((HF6.out.trans (EdFr.of_below (below_drewN (Below.refl _ _) nq))).trans f7)
              clear k7 f7 HWr
              go_wp2_with fail
              go_ret
              rw [HR2.out]
              exact ⟨rfl, m7, v7, vs7, HK7.out, HF7.out⟩
            · have hgd' : ¬ ((scan t0).good : Int) < ((bya t0).size : Int) := by rw [HZ0.out]; omega
              have HR2 : Hid (RR = (0, curE g1 0 (scan t0) (bya t0).size, d1)) := by unfold Hid; rw [HR1.out, if_neg hgd, HZ0.out]
              clear hgd
              go_quiet (fail)
              go_wp2_with fail
              go_ret
              rw [HR2.out]
              exact ⟨rfl, _, _, _, HK6.out.drewN _, HF6.out.trans (EdFr.of_below (below_drewN (Below.refl _ _) _))⟩
  · rw [if_neg hn]
    simp only
    go_enter Tryz.func73, Tryz.ntmps73
    go_wp2_with fail
    refine (unhide HRd).mono ?_
    rintro e w1 ⟨s0, s1, rfl, _, m1, v1, vs1, k1, f1⟩
    have hb1 : Below w1.heap.size w1 (w1.alloc (.cells #[.string s0, .string s1] 180)) := (Below.refl _ _).alloc (Nat.le_refl _) _
    have HK1 := hide (k1.up hb1); have HFr1 := hide (f1.trans (EdFr.of_below hb1))
    have hn' : (n == 0) = false := by simpa using hn
    clear k1 f1 hn hb1 HRd
    unfold txV
    go_wp2_with fail
    go_ret
    exact ⟨rfl, m1, v1, vs1, HK1.out, HFr1.out⟩
end Go.Proofs.YtmmflekajbeamabGreatDoor
