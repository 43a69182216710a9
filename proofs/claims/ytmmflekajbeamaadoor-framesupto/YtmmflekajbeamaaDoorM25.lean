/-
  Plans, the document's answer: a plan is done (cribref.Do).
  Lists that the caller writes full of a mark and appends marks to, of whatever elements: whatever they share, all of them read marks alone. E: the elements' type, k: their cells, mc: a mark's cells.
-/
import Derived.Test.YtmmflekajbeamaaDoorM21
import Derived.Test.YtmmflekajbeamaaDoorM24
import Derived.Test.YtmmflekajbeamaaDoorM09
import Derived.Test.YtmmflekajbeamaaDoorM14
import Derived.Maps.AppendAt
namespace Go.Proofs.YtmmflekajbeamaaDoor
open Go.RowKit

theorem stB_rm {regs mem : List Int} (hr : regs.length = 8) (hm : mem.length = 128) : stB (mkZ regs mem 0 0) = true ↔ okRM regs mem := by
  unfold stB okRM
  rw [Bool.and_eq_true, Bool.and_eq_true]
  have e1 : regsB (mkZ regs mem 0 0) = allW (gz regs) 8 := by
    unfold regsB allW
    rw [Bool.eq_iff_iff, List.all_eq_true, List.all_eq_true]
    constructor
    · intro h i hi
      have := h i hi
      rw [mkZ_reg hr (List.mem_range.1 hi)] at this
      exact this
    · intro h i hi
      rw [mkZ_reg hr (List.mem_range.1 hi)]
      exact h i hi
  have e2 : memB (mkZ regs mem 0 0) = allW (gz mem) 128 := by
    unfold memB allW
    rw [Bool.eq_iff_iff, List.all_eq_true, List.all_eq_true]
    constructor
    · intro h i hi
      have := h i hi
      rw [mkZ_mem hr hm (List.mem_range.1 hi)] at this
      exact this
    · intro h i hi
      rw [mkZ_mem hr hm (List.mem_range.1 hi)]
      exact h i hi
  have e3 : pcB (mkZ regs mem 0 0) = true := by
    unfold pcB
    rw [mkZ_pc hr hm, mkZ_st hr hm]
    decide
  rw [e1, e2, e3]
  simp
theorem take_set {α : Type} (l m : List α) (k : Nat) (x : α) (hk : k < l.length) (hl : l[k]? = some x) (hm : k < m.length) : (l.take k ++ m.drop k).set k x = l.take (k + 1) ++ m.drop (k + 1) := by
  have h1 : (l.take k).length = k := by rw [List.length_take]; omega
  rw [List.set_append_right _ _ (by omega), h1, Nat.sub_self, List.drop_eq_getElem_cons hm, List.set_cons_zero, List.take_add_one, hl, List.append_assoc]
  rfl

set_option maxRecDepth 100000 in
set_option maxHeartbeats 4000000 in
theorem refDo_any (p : ByteArray) (regs mem : List Int) (w : World) (hr : regs.length = 8) (hm : mem.length = 128) (hp : p.size ≤ maxLen) :
    Calls Tryd.prog 53 #[.string p, .agg (S regs), .agg (S mem)] w (DoPost p regs mem w) := by
  have z8 := zero8; have z16 := zero16
  obtain ⟨W0, hW0⟩ : ∃ W0, W0 = ((w.alloc (.cells (S regs) 31)).alloc (.cells (S mem) 32)).alloc (.cells (S (zr 8)) 31) := ⟨_, rfl⟩
  have HW := hide hW0
  have hb0 : Below w.heap.size w W0 := by rw [hW0]; exact below3 w _ _ _
  have hz0 : W0.heap.size = w.heap.size + 1 + 1 + 1 := by rw [hW0, size_alloc1, size_alloc1, size_alloc1]
  have r0 : RowI W0 w.heap.size 31 regs := by
    unfold RowI; rw [hW0, Below.heap_alloc _ _ _ (by rw [size_alloc1, size_alloc1]; omega), Below.heap_alloc _ _ _ (by rw [size_alloc1]; omega), _root_.Go.heap_alloc_new]
  have r1 : RowI W0 (w.heap.size + 1) 32 mem := by
    unfold RowI
    rw [hW0, Below.heap_alloc _ _ _ (by rw [size_alloc1, size_alloc1]; omega)]
    have := _root_.Go.heap_alloc_new (w.alloc (.cells (S regs) 31)) (.cells (S mem) 32)
    rw [size_alloc1] at this
    exact this
  have r2 : RowI W0 (w.heap.size + 1 + 1) 31 (zr 8) := by
    unfold RowI
    rw [hW0]
    have := _root_.Go.heap_alloc_new ((w.alloc (.cells (S regs) 31)).alloc (.cells (S mem) 32)) (.cells (S (zr 8)) 31)
    rw [size_alloc1, size_alloc1] at this
    exact this
  have HR0 := hide r0; have HR1 := hide r1; have HR2 := hide r2; have HB0 := hide hb0
  have HBad : Hid (∀ w' n, Below w.heap.size w w' → ((n = 8 ∧ ¬ okRM regs mem) ∨ (n = 11 ∧ okRM regs mem ∧ ¬ putsOK p)) → DoPost p regs mem w (.returned (.tuple #[.agg (S (zr 8)), .int .i64 n])) w') := fun w' n hb hn => by
    rcases hn with ⟨rfl, h⟩ | ⟨rfl, h1, h2⟩
    · exact ⟨hb, .inl ⟨h, rfl⟩⟩
    · exact ⟨hb, .inr (.inl ⟨h1, h2, rfl⟩)⟩
  have HBd := hide (build_rm regs mem hr hm)
  have HRt := hide (right_any (mkZ regs mem 0 0) W0 (mkZ_len hr hm))
  have HPt := hide (fun w' => refPuts_any p w' hp)
  have hst := stB_rm hr hm
  clear r0 r1 r2 hb0 hW0
  by_cases hok : okRM regs mem
  · rw [hst.2 hok] at HRt
    have HOK := hide hok
    have hWr := allW_WL hok.1 hr
    have hWm := allW_WL hok.2 hm
    clear hst hok
    go_enter Tryd.func53, Tryd.ntmps53
    go_wp2_with (first | (refine wpList_loadR rfl Tryd.underlying31 size8 rfl _ rfl w.heap.size rfl (by rw [← HW.out]; exact HR0.out.isRow 8 hr) (S regs) (by rw [← HW.out]; exact HR0.out.rowD) ?_) | (refine wpList_loadR rfl Tryd.underlying32 size128 rfl _ rfl (w.heap.size + 1) rfl (by rw [← HW.out]; exact HR1.out.isRow 128 hm) (S mem) (by rw [← HW.out]; exact HR1.out.rowD) ?_) | (refine wpList_buildR rfl 34 0 1 _ _ rfl (.agg (S regs)) (.agg (S mem)) _ rfl rfl (HBd.out _) ?_))
    rw [← HW.out]
    refine (unhide HRt).mono ?_
    rintro e wA ⟨rfl, hbA⟩
    have HBA : Hid (Below w.heap.size w wA) := HB0.out.trans (hbA.mono (by omega))
    have HRA0 := hide (HR0.out.keep (hbA.block _ (by omega)))
    have HRA1 := hide (HR1.out.keep (hbA.block _ (by omega)))
    have HRA2 := hide (HR2.out.keep (hbA.block _ (by omega)))
    have hzA := hbA.size
    clear hbA HRt
    go_wp2_with fail
    refine (unhide HPt _).mono ?_
    rintro e w1 ⟨hb1, ⟨hpk, pv, rfl, hpo⟩ | ⟨hpn, rfl⟩⟩
    · have HB1 : Hid (Below w.heap.size w w1) := HBA.out.trans (hb1.mono HBA.out.size)
      have hz1 := hb1.size
      have HR0' := hide (HRA0.out.keep (hb1.block _ (by omega)))
      have HR1' := hide (HRA1.out.keep (hb1.block _ (by omega)))
      have HR2' := hide (HRA2.out.keep (hb1.block _ (by omega)))
      have HPk := hide hpk; have HPo := hide (own_take' hpo (putL_len p _).symm)
      obtain ⟨pa, pc, rfl⟩ := owns_len hpo
      have hln : (putL p (p.size / 8)).length = p.size / 8 := putL_len p _
      have hpl10 : p.size / 8 ≤ 10 := by have := hpk.2.1; omega
      clear hb1 hpk hpo HPt HR0 HR1 HR2 HRA0 HRA1 HRA2
      have HL0 : Hid (RowI (w1.alloc (.cells (S (zr 16)) 119)) w1.heap.size 119 (zr 16)) := _root_.Go.heap_alloc_new w1 _
      have HBp : Hid (Below w1.heap.size w1 (w1.alloc (.cells (S (zr 16)) 119))) := (Below.refl _ _).alloc (Nat.le_refl _) _
      have hm1 : w.heap.size + 1 + 1 < w1.heap.size := HR2'.out.lt
      go_wp2_with fail
      go_loopw [12] (fun i wr => ∃ k : Nat, k ≤ 8 ∧ i = .int .i64 k ∧ Hid (RowI wr w1.heap.size 119 (regs.take k ++ (zr 16).drop k) ∧ Below w1.heap.size w1 wr)) (fun i _ => 8 - (intOf i).toNat)
      case atStart => exact ⟨0, Nat.zero_le _, rfl, HL0.out, HBp.out⟩
      case round =>
        obtain ⟨k, hk, rfl, HRl⟩ := hrel
        by_cases hlt : k < 8
        · have hlt' : (k : Int) < 8 := by omega
          obtain ⟨h1, h2⟩ := HRl.out
          have hlen : (regs.take k ++ (zr 16).drop k).length = 16 := by rw [List.length_append, List.length_take, List.length_drop, zr_len]; omega
          have x0 := (HR0'.out.keep (h2.block _ (by omega))).cell k (by omega)
          have x1 := h1.cell k (by omega)
          have f1 := h1.frozen k
          have HN : Hid (RowI (wr.setCell ⟨w1.heap.size, k, none⟩ (.int .i64 (gz regs k))) w1.heap.size 119 (regs.take (k + 1) ++ (zr 16).drop (k + 1)) ∧ Below w1.heap.size w1 (wr.setCell ⟨w1.heap.size, k, none⟩ (.int .i64 (gz regs k)))) := by
            refine ⟨?_, h2.setCell (Nat.le_refl _) _⟩
            rw [← take_set regs (zr 16) k (gz regs k) (by omega) (by unfold gz; rw [List.getD_eq_getElem?_getD, List.getElem?_eq_getElem (by omega)]; rfl) (by rw [zr_len]; omega)]
            exact h1.set _ _
          clear h1 h2 hlen
          go_wp2_with fail
          exact ⟨⟨k + 1, by omega, by go_num, HN.out⟩, by simp [intOf]; omega⟩
        · have hkn : k = 8 := by omega
          have e8 : (k : Int) = 8 := by omega
          rw [e8]
          subst hkn
          obtain ⟨h1, h2⟩ := HRl.out
          rw [List.take_of_length_le (by omega)] at h1
          have h1' : RowI wr w1.heap.size 119 (begD regs) := h1
          have HS1 := hide h1'; have HS2 := hide h2
          clear h1 h1' h2 HRl e8 hk hlt
          go_wp2_with fail
          go_loopw [13] (fun i wr => ∃ k : Nat, k ≤ p.size / 8 ∧ i = .int .i64 k ∧ Hid (RowI wr w1.heap.size 119 (((putL p (p.size / 8)).take k).foldl (stD mem) (begD regs)) ∧ Below w1.heap.size w1 wr)) (fun i _ => p.size / 8 - (intOf i).toNat)
          case atStart => exact ⟨0, Nat.zero_le _, rfl, HS1.out, HS2.out⟩
          case round =>
            obtain ⟨k, hk, rfl, HRl⟩ := hrel
            have hwl := WL.fold hWm (putL_ok HPk.out) k (begD regs) (by omega) (WL.beg hWr)
            by_cases hlt : k < p.size / 8
            · have hlt' : (k : Int) < ((p.size / 8 : Nat) : Int) := by omega
              have hpk : (putL p (p.size / 8))[k]? = some ((putL p (p.size / 8))[k]'(by omega)) := List.getElem?_eq_getElem (by omega)
              have hmem := List.mem_of_getElem? hpk
              obtain ⟨hok, hkk⟩ := putL_ok HPk.out _ hmem
              have HStp : Hid (((putL p (p.size / 8)).take (k + 1)).foldl (stD mem) (begD regs) = (((putL p (p.size / 8)).take k).foldl (stD mem) (begD regs)).set ((putL p (p.size / 8))[k]'(by omega)).d (vD (((putL p (p.size / 8)).take k).foldl (stD mem) (begD regs)) mem ((putL p (p.size / 8))[k]'(by omega)))) := foldl_take_succ _ _ _ _ _ hpk
              obtain ⟨hrl, hbl⟩ := HRl.out
              obtain ⟨g, cap, hform, _, hgl⟩ := HPo.out.form (by omega)
              obtain ⟨x0, x1, x2, x3, x4⟩ := put_cells (own_grow (own_take' (hform ▸ HPo.out) rfl) hbl) k _ hpk
              have hform' : pa = some ⟨g, 0, none⟩ := by injection hform
              subst hform'
              have hrm : RowI wr (w.heap.size + 1) 32 mem := HR1'.out.keep (hbl.block _ HR1'.out.lt)
              have hwz : w1.heap.size < wr.heap.size := hrl.lt
              generalize (putL p (p.size / 8))[k]'(by omega) = q at *
              have hd16 := hok.1
              have hd16' : (q.d : Int) < 16 := by omega
              generalize hL : ((putL p (p.size / 8)).take k).foldl (stD mem) (begD regs) = L at *
              clear hL
              have la := hwl.1
              have hFin : ∀ w2 v, Below wr.heap.size wr w2 → v = vD L mem q → RowI w2 w1.heap.size 119 L ∧ (RowI (w2.setCell ⟨w1.heap.size, q.d, none⟩ (.int .i64 v)) w1.heap.size 119 (((putL p (p.size / 8)).take (k + 1)).foldl (stD mem) (begD regs)) ∧ Below w1.heap.size w1 (w2.setCell ⟨w1.heap.size, q.d, none⟩ (.int .i64 v))) := fun w2 v hb hv => by
                have hr2 := hrl.keep (hb.block _ hwz)
                rw [HStp.out, ← hv]
                exact ⟨hr2, hr2.set _ _, (hbl.trans (hb.mono (Nat.le_of_lt hwz))).setCell (Nat.le_refl _) _⟩
              have HFin := hide hFin
              obtain ⟨pk, pd, pa', pb, pk'⟩ := q
              obtain ⟨-, a16, b16, hc⟩ := hok
              simp only at x0 x1 x2 x3 x4 hd16 hd16' HFin a16 b16 hc hkk
              have ha := hrl.cell pa' (by omega)
              have hb := hrl.cell pb (by omega)
              have hdc := hrl.cell pd (by omega)
              have hdf := hrl.frozen pd
              have wa := hwl.at a16
              have wb := hwl.at b16
              have a16' : (pa' : Int) < 16 := by omega
              have b16' : (pb : Int) < 16 := by omega
              have eb : gz L pb = L.getD pb 0 := rfl
              have ea : gz L pa' = L.getD pa' 0 := rfl
              rw [ea] at ha
              rw [eb] at hb
              have HB1' := hide (fun o => (Below.refl wr.heap.size wr).alloc (Nat.le_refl _) o)
              have HRMm := hide hrm
              clear hFin hrl hrm hbl hpk hmem hwl hform HStp HPo HRl HS1 HS2 ea eb
              rcases hc with ⟨rfl, rfl, rfl⟩ | ⟨k2, k5, rfl⟩ | ⟨rfl, rfl, hk6⟩ | ⟨rfl, rfl, rfl⟩
              · have x0' : wr.cell? ⟨g, k * 5, none⟩ = some (.int .i64 1) := x0
                have HV := hide (HFin.out wr (pk' : Int) (Below.refl _ _) rfl)
                clear x0 ha hb wa wb
                go_wp2_with fail
                exact ⟨⟨k + 1, by omega, by go_num, (HV.out.2.1.keep (Below.heap_alloc _ _ _ (by simp; omega))), HV.out.2.2.alloc (by simp; omega) _⟩, by simp [intOf]; omega⟩
              · have HV := HFin
                have hvd : vD L mem ⟨pk, pd, pa', pb, 0⟩ = wk pk (L.getD pa' 0) (L.getD pb 0) := by unfold vD; dsimp only; rw [if_neg (by omega), if_neg (by omega), if_neg (by omega)]
                rw [hvd] at HV
                have q1 : ((pk : Int) == 1) = false := by simp; omega
                have q6 : ((pk : Int) == 6) = false := by simp; omega
                have q7 : ((pk : Int) == 7) = false := by simp; omega
                have HRk := hide (fun w' => works_any pk (L.getD pa' 0) (L.getD pb 0) w' wa.1 wa.2 wb.1 wb.2 (by omega) (by omega))
                generalize L.getD pa' 0 = x at *
                generalize L.getD pb 0 = y at *
                clear k2 k5 hvd HFin
                go_wp2_with fail
                go_quiet ((go_at_call 84; exact Calls.quiet_of_same (unhide HRk _)))
                go_wp2_with fail
                exact ⟨⟨k + 1, by omega, by go_num, (HV.out _ _ (below_drewN (HB1'.out _) nq) rfl).2⟩, by simp [intOf]; omega⟩
              · obtain ⟨m, hmm⟩ := Int.eq_ofNat_of_zero_le (show 0 ≤ (L.getD pa' 0 + (pk' : Int)) % 128 by omega)
                have hm2 : m < 128 := by omega
                have HV := HFin
                have hvd : vD L mem ⟨6, pd, pa', 0, pk'⟩ = mem.getD m 0 := by unfold vD; dsimp only; rw [if_neg (by omega), if_pos rfl, hmm]; rfl
                rw [hvd] at HV
                have hxm := HRMm.out.cell m (by omega)
                have em : gz mem m = mem.getD m 0 := rfl
                rw [em] at hxm
                have hm2' : (m : Int) < 128 := by omega
                have hlt0 : w.heap.size + 1 < wr.heap.size := by omega
                have x0' : wr.cell? ⟨g, k * 5, none⟩ = some (.int .i64 6) := x0
                generalize L.getD pa' 0 = x at *
                generalize mem.getD m 0 = y at *
                clear x0 hb wb em hvd HFin
                go_wp2_with fail
                go_quiet (fail)
                go_wp2_with fail
                exact ⟨⟨k + 1, by omega, by go_num, (HV.out _ _ (below_drewN (HB1'.out _) nq) rfl).2⟩, by simp [intOf]; omega⟩
              · have x0' : wr.cell? ⟨g, k * 5, none⟩ = some (.int .i64 7) := x0
                have hvd : vD L mem ⟨7, pd, pa', 0, 0⟩ = L.getD pa' 0 := rfl
                have HV := hide (HFin.out wr (L.getD pa' 0) (Below.refl _ _) hvd.symm)
                generalize L.getD pa' 0 = x at *
                clear x0 hb wb hvd HFin
                go_wp2_with fail
                exact ⟨⟨k + 1, by omega, by go_num, (HV.out.2.1.keep (Below.heap_alloc _ _ _ (by simp; omega))), HV.out.2.2.alloc (by simp; omega) _⟩, by simp [intOf]; omega⟩
            · have hkn : k = p.size / 8 := by omega
              have hlt' : ¬ (k : Int) < ((p.size / 8 : Nat) : Int) := by omega
              obtain ⟨h7, hbl⟩ := HRl.out
              rw [List.take_of_length_le (by omega)] at h7 hwl
              have hDo : Hid ((putL p (p.size / 8)).foldl (stD mem) (begD regs) = doL mem (putL p (p.size / 8)) (begD regs)) := rfl
              generalize (putL p (p.size / 8)).foldl (stD mem) (begD regs) = L at *
              have ln := hwl.1
              have HQ0 := hide (HR0'.out.keep (hbl.block _ HR0'.out.lt))
              have HQ2 := hide (HR2'.out.keep (hbl.block _ HR2'.out.lt))
              have HQL := hide h7
              have HBf := hide (HB1.out.trans (hbl.mono HB1.out.size))
              clear h7 hbl hwl HRl HS1 HS2
              go_wp2_with fail
              go_loopw [16] (fun i wr => ∃ k : Nat, k ≤ 8 ∧ i = .int .i64 k ∧ Hid (RowI wr w.heap.size 31 (L.take k ++ regs.drop k) ∧ RowI wr w1.heap.size 119 L ∧ RowI wr (w.heap.size + 1 + 1) 31 (zr 8) ∧ Below w.heap.size w wr)) (fun i _ => 8 - (intOf i).toNat)
              case atStart => exact ⟨0, Nat.zero_le _, rfl, HQ0.out, HQL.out, HQ2.out, HBf.out⟩
              case round =>
                obtain ⟨k3, hk3, rfl, HR3⟩ := hrel
                obtain ⟨h1, h2, h3, h4⟩ := HR3.out
                by_cases hlt3 : k3 < 8
                · have hlt3' : (k3 : Int) < 8 := by omega
                  have hlt16 : (k3 : Int) < 16 := by omega
                  have hlen : (L.take k3 ++ regs.drop k3).length = 8 := by rw [List.length_append, List.length_take, List.length_drop]; omega
                  have x0 := h2.cell k3 (by omega)
                  have x1 := h1.cell k3 (by omega)
                  have f1 := h1.frozen k3
                  have HN : Hid (RowI (wr.setCell ⟨w.heap.size, k3, none⟩ (.int .i64 (gz L k3))) w.heap.size 31 (L.take (k3 + 1) ++ regs.drop (k3 + 1)) ∧ RowI (wr.setCell ⟨w.heap.size, k3, none⟩ (.int .i64 (gz L k3))) w1.heap.size 119 L ∧ RowI (wr.setCell ⟨w.heap.size, k3, none⟩ (.int .i64 (gz L k3))) (w.heap.size + 1 + 1) 31 (zr 8) ∧ Below w.heap.size w (wr.setCell ⟨w.heap.size, k3, none⟩ (.int .i64 (gz L k3)))) := by
                    refine ⟨?_, h2.keep (heap_set_other wr _ (by omega)), h3.keep (heap_set_other wr _ (by omega)), h4.setCell (Nat.le_refl _) _⟩
                    rw [← take_set L regs k3 (gz L k3) (by omega) (by unfold gz; rw [List.getD_eq_getElem?_getD, List.getElem?_eq_getElem (by omega)]; rfl) (by omega)]
                    exact h1.set _ _
                  clear h1 h2 h3 h4 hlen
                  go_wp2_with fail
                  exact ⟨⟨k3 + 1, by omega, by go_num, HN.out⟩, by simp [intOf]; omega⟩
                · have hk8 : k3 = 8 := by omega
                  have hlt3' : ¬ (k3 : Int) < 8 := by omega
                  rw [hk8, List.drop_of_length_le (by omega), List.append_nil] at h1
                  have hl8 : (L.take 8).length = 8 := by rw [List.length_take]; omega
                  have rI := h1.isRow 8 hl8
                  have rD := h1.rowD
                  have rI2 := h3.isRow 8 (zr_len 8)
                  have H3 := hide h3; have H4 := hide h4
                  clear h1 h2 h3 h4 hk8 HR3
                  go_wp2_with (first | (refine wpList_loadR rfl Tryd.underlying31 size8 rfl _ rfl w.heap.size rfl rI _ rD ?_) | (refine wpList_storeR size8 rfl _ _ rfl (w.heap.size + 1 + 1) rfl (L.take 8) rfl hl8 rI2 _ rfl ?_))
                  refine bodyPost_ret (v := .tuple #[.agg (S (L.take 8)), .int .i64 0]) (res_8 Tryd.results53 _ _ (w.heap.size + 1 + 1) _ hl8 rfl (H3.out.setRow8 _) _ rfl) rfl ⟨below_setRow H4.out (by omega) _, .inr (.inr ⟨HOK.out, HPk.out, ?_⟩)⟩
                  rw [hDo.out]
    · have HB1 : Hid (Below w.heap.size w w1) := HBA.out.trans (hb1.mono HBA.out.size)
      have hz1 := hb1.size
      have HR2' := hide (HRA2.out.keep (hb1.block _ (by omega)))
      have HN := hide hpn
      clear hb1 hpn HPt
      go_wp2_with (refine wpList_storeR size8 rfl _ _ rfl (w.heap.size + 1 + 1) rfl (zr 8) rfl (zr_len 8) (HR2'.out.isRow 8 (zr_len 8)) _ rfl ?_)
      exact bodyPost_ret (v := .tuple #[.agg (S (zr 8)), .int .i64 11]) (res_8 Tryd.results53 _ _ (w.heap.size + 1 + 1) (zr 8) (zr_len 8) rfl (HR2'.out.setRow8 (zr 8)) _ rfl) rfl (HBad.out _ 11 (below_setRow HB1.out (by omega) _) (.inr ⟨rfl, HOK.out, HN.out⟩))
  · have hf : stB (mkZ regs mem 0 0) = false := by
      cases hq : stB (mkZ regs mem 0 0)
      · rfl
      · exact absurd (hst.1 hq) hok
    rw [hf] at HRt
    have HN := hide hok
    clear hst hok hf
    go_enter Tryd.func53, Tryd.ntmps53
    go_wp2_with (first | (refine wpList_loadR rfl Tryd.underlying31 size8 rfl _ rfl w.heap.size rfl (by rw [← HW.out]; exact HR0.out.isRow 8 hr) (S regs) (by rw [← HW.out]; exact HR0.out.rowD) ?_) | (refine wpList_loadR rfl Tryd.underlying32 size128 rfl _ rfl (w.heap.size + 1) rfl (by rw [← HW.out]; exact HR1.out.isRow 128 hm) (S mem) (by rw [← HW.out]; exact HR1.out.rowD) ?_) | (refine wpList_buildR rfl 34 0 1 _ _ rfl (.agg (S regs)) (.agg (S mem)) _ rfl rfl (HBd.out _) ?_))
    rw [← HW.out]
    refine (unhide HRt).mono ?_
    rintro e wA ⟨rfl, hbA⟩
    have HBA : Hid (Below w.heap.size w wA) := HB0.out.trans (hbA.mono (by omega))
    have HRA2 := hide (HR2.out.keep (hbA.block _ (by omega)))
    clear hbA HRt
    go_wp2_with (refine wpList_storeR size8 rfl _ _ rfl (w.heap.size + 1 + 1) rfl (zr 8) rfl (zr_len 8) (HRA2.out.isRow 8 (zr_len 8)) _ rfl ?_)
    exact bodyPost_ret (v := .tuple #[.agg (S (zr 8)), .int .i64 8]) (res_8 Tryd.results53 _ _ (w.heap.size + 1 + 1) (zr 8) (zr_len 8) rfl (HRA2.out.setRow8 (zr 8)) _ rfl) rfl (HBad.out _ 8 (below_setRow HBA.out (by omega) _) (.inl ⟨rfl, HN.out⟩))
end Go.Proofs.YtmmflekajbeamaaDoor

namespace Go.Proofs.YtmmflekajbeamaaDoor
open Go.RowKit

section
variable {E : TypeId} {k : Nat} {mc : List Value}
/-- What writing marks leaves: blocks below B as they were; in rows of E marks stay marks; other blocks as they were. -/
structure KG (E : TypeId) (k : Nat) (mc : List Value) (B : Nat) (w w' : World) : Prop where
  below : Below B w w'
  keep : ∀ (g : Nat) (cur : Array Value), w.heap[g]? = some (.cells cur E (0, 0)) → ∃ cur' : Array Value, w'.heap[g]? = some (.cells cur' E (0, 0)) ∧ cur'.size = cur.size ∧ ∀ (j : Nat) (u : Value), mc[j % k]? = some u → cur[j]? = some u → cur'[j]? = some u
  other : ∀ g, g < w.heap.size → (∀ cur, w.heap[g]? ≠ some (.cells cur E (0, 0))) → w'.heap[g]? = w.heap[g]?
theorem KG.refl (B : Nat) (w : World) : KG E k mc B w w := ⟨Below.refl _ _, fun _ cur h => ⟨cur, h, rfl, fun _ _ _ h => h⟩, fun _ _ _ => rfl⟩
theorem KG.trans {B : Nat} {a b c : World} (h : KG E k mc B a b) (q : KG E k mc B b c) : KG E k mc B a c := by
  refine ⟨h.below.trans q.below, fun g cur hg => ?_, fun g hg hn => ?_⟩
  · obtain ⟨c1, h1, h2, h3⟩ := h.keep g cur hg
    obtain ⟨c2, k1, k2, k3⟩ := q.keep g c1 h1
    exact ⟨c2, k1, k2.trans h2, fun j u hu hj => k3 j u hu (h3 j u hu hj)⟩
  · have h1 := h.other g hg hn
    exact (q.other g (Nat.lt_of_lt_of_le hg h.below.size) (fun cur e => hn cur (h1 ▸ e))).trans h1
theorem KG.above {B : Nat} {a b : World} (hB : B ≤ a.heap.size) (h : Below a.heap.size a b) : KG E k mc B a b :=
  ⟨h.mono hB, fun g cur hg => ⟨cur, (h.block g (Array.getElem?_eq_some_iff.1 hg).1).trans hg, rfl, fun _ _ _ h => h⟩, fun g hg _ => h.block g hg⟩
/-- A slice whose elements are all the mark. -/
def GS (E : TypeId) (k : Nat) (mc : List Value) (w : World) (v : Value) : Prop :=
  ∃ a n c, v = .slice a n c ∧ n ≤ 2000000 ∧ (0 < n → ∃ g cur, a = some ⟨g, 0, none⟩ ∧ w.heap[g]? = some (.cells cur E (0, 0)) ∧ ∀ (j : Nat) (u : Value), j < n * k → mc[j % k]? = some u → cur[j]? = some u)
theorem GS.kg {B : Nat} {w w' : World} {v : Value} (h : GS E k mc w v) (q : KG E k mc B w w') : GS E k mc w' v := by
  obtain ⟨a, n, c, hv, hle, h⟩ := h
  refine ⟨a, n, c, hv, hle, fun hn => ?_⟩
  obtain ⟨g, cur, ha, hg, hc⟩ := h hn
  obtain ⟨cur', g1, _, g3⟩ := q.keep g cur hg
  exact ⟨g, cur', ha, g1, fun j u hj hu => g3 j u hu (hc j u hj hu)⟩
theorem GS.block {w w' : World} {v : Value} (h : GS E k mc w v) (q : ∀ g, g < w.heap.size → (∃ cur, w.heap[g]? = some (.cells cur E (0, 0))) → w'.heap[g]? = w.heap[g]?) : GS E k mc w' v := by
  obtain ⟨a, n, c, hv, hle, h⟩ := h
  refine ⟨a, n, c, hv, hle, fun hn => ?_⟩
  obtain ⟨g, cur, ha, hg, hc⟩ := h hn
  exact ⟨g, cur, ha, (q g (Array.getElem?_eq_some_iff.1 hg).1 ⟨cur, hg⟩).trans hg, hc⟩
def gks (mc : List Value) (n : Nat) : List Value := (List.replicate n mc).flatten
theorem gks_len (hk : mc.length = k) (n : Nat) : (gks mc n).length = n * k := by
  unfold gks
  rw [List.length_flatten, List.map_replicate, List.sum_replicate_nat, hk]
theorem gks_succ (n : Nat) : gks mc (n + 1) = mc ++ gks mc n := by unfold gks; rw [List.replicate_succ, List.flatten_cons]
theorem gks_add (n m : Nat) : gks mc n ++ gks mc m = gks mc (n + m) := by unfold gks; rw [← List.flatten_append, List.replicate_append_replicate]
theorem gks_at (hk : mc.length = k) : ∀ (n j : Nat), j < n * k → (gks mc n)[j]? = mc[j % k]? := by
  intro n
  induction n with
  | zero => intro j hj; omega
  | succ n ih =>
    intro j hj
    rw [gks_succ]
    by_cases h : j < k
    · rw [List.getElem?_append_left (by omega), Nat.mod_eq_of_lt h]
    · rw [List.getElem?_append_right (by omega), hk, ih (j - k) (by rw [Nat.succ_mul] at hj; omega)]
      congr 1
      rw [Nat.mod_eq_sub_mod (by omega : k ≤ j)]
theorem gtake_iff (hk : mc.length = k) (k0 : 0 < k) (cur : Array Value) (n : Nat) : cur.toList.take (n * k) = gks mc n ↔ ∀ (j : Nat) (u : Value), j < n * k → mc[j % k]? = some u → cur[j]? = some u := by
  constructor
  · intro h j u hj hu
    have : (cur.toList.take (n * k))[j]? = (gks mc n)[j]? := by rw [h]
    rw [List.getElem?_take, if_pos hj, gks_at hk n j hj, hu] at this
    rw [← this, Array.getElem?_toList]
  · intro h
    apply List.ext_getElem?
    intro j
    rw [List.getElem?_take]
    by_cases hj : j < n * k
    · rw [if_pos hj, gks_at hk n j hj, Array.getElem?_toList]
      have hm : j % k < mc.length := by rw [hk]; exact Nat.mod_lt _ k0
      rw [h j mc[j % k] hj (List.getElem?_eq_getElem hm), List.getElem?_eq_getElem hm]
    · rw [if_neg hj, List.getElem?_eq_none (by rw [gks_len hk]; omega)]
theorem own_gs (hk : mc.length = k) (k0 : 0 < k) {w : World} {B : Nat} {v : Value} {n : Nat} (h : w.ownsRow B E k v n (gks mc n)) (hn : n ≤ 2000000) : GS E k mc w v := by
  rcases h.2 with ⟨rfl, h0⟩ | ⟨g, cap, cur, rfl, hb, hg, hnc, hcm, hcs, ht⟩
  · exact ⟨none, 0, 0, rfl, by omega, fun h => by omega⟩
  · exact ⟨_, n, cap, rfl, hn, fun _ => ⟨g, cur, rfl, hg, (gtake_iff hk k0 cur n).1 ht⟩⟩
theorem own_kg (hk : mc.length = k) (k0 : 0 < k) {w w' : World} {B B' : Nat} {v : Value} {n : Nat} (h : w.ownsRow B E k v n (gks mc n)) (q : KG E k mc B' w w') : w'.ownsRow B E k v n (gks mc n) := by
  refine ⟨h.1, ?_⟩
  rcases h.2 with h0 | ⟨g, cap, cur, hv, hb, hg, hnc, hcm, hcs, ht⟩
  · exact .inl h0
  · obtain ⟨cur', g1, g2, g3⟩ := q.keep g cur hg
    exact .inr ⟨g, cap, cur', hv, hb, g1, hnc, hcm, g2.trans hcs, (gtake_iff hk k0 cur' n).2 (fun j u hj hu => g3 j u hu ((gtake_iff hk k0 cur n).1 ht j u hj hu))⟩
/-- A cell of a mark is written into a row, at its place. -/
theorem KG.store {B : Nat} {w : World} {g n cap : Nat} {xs : List Value} (h : w.ownsRow B E k (.slice (some ⟨g, 0, none⟩) n cap) n xs) (j : Nat) {u : Value} (hu : mc[j % k]? = some u) : KG E k mc B w (w.setCell ⟨g, j, none⟩ u) := by
  obtain ⟨cur0, hg0⟩ := ownsRow_kind h g rfl
  refine ⟨(Below.refl _ _).setCell (p := ⟨g, j, none⟩) (row_lt h g rfl).1 _, fun q cur hq => ?_, fun q _ hn => ?_⟩
  · by_cases hqg : q = g
    · subst hqg
      rw [hg0] at hq
      cases hq
      refine ⟨cur0.setIfInBounds j u, heap_setCell_same w q j cur0 _ _ hg0, by simp, fun i v hv hi => ?_⟩
      rw [Array.getElem?_setIfInBounds]
      split
      · rename_i hij
        subst hij
        rw [if_pos (Array.getElem?_eq_some_iff.1 hi).1, ← hu, hv]
      · exact hi
    · exact ⟨cur, (heap_set_other w _ hqg).trans hq, rfl, fun _ _ _ h => h⟩
  · exact heap_set_other w _ (fun e => hn cur0 (e ▸ hg0))
end
set_option maxRecDepth 4000 in
/-- Marks are appended to a list of marks. -/
theorem run_append_g {P : Program} {T E ty : TypeId} {k by' : Nat} {mc : List Value} {inf : TypeInfo} {z : Value} (hT : P.underlying T = some (.slice E)) (hinf : P.info? E = some inf) (hz : inf.zero = some z) (hsz : inf.size = k) (hby : inf.bytes = by') (hzc : z.cells.size = k) (hb1 : by' ≤ 1000) (hk : mc.length = k) (k0 : 0 < k) (h1 : ∀ u ∈ mc, u.oneCell' = true)
    (w : World) (B : Nat) (v : Value) (n m c : Nat) (h : w.ownsRow B E k v n (gks mc n)) (ad : Addr) (hnews : ∀ j u, (gks mc m)[j]? = some u → w.cell? (ad.add j) = some u) (hn : n + m ≤ 2000000) (hB : B ≤ w.heap.size) :
    ∃ v' w', (Builtin.append_ #[T, T] ty #[v, .slice (some ad) m c]).run P w = .ok v' w' ∧ w'.ownsRow B E k v' (n + m) (gks mc (n + m)) ∧ KG E k mc B w w' ∧ ∃ a cc, v' = .slice a (n + m) cc := by
  have hl : (gks mc m).length = m * k := gks_len hk m
  have h1' : ∀ u ∈ gks mc m, u.oneCell' = true := fun u hu => by
    unfold gks at hu
    obtain ⟨l, hl, hu⟩ := List.mem_flatten.1 hu
    rw [List.eq_of_mem_replicate hl] at hu
    exact h1 u hu
  have hmb : (n + m) * by' ≤ 2000000000 := Nat.le_trans (Nat.mul_le_mul hn hb1) (by decide)
  rcases h.2 with ⟨hv, hn0⟩ | ⟨g, cap, cur, hv, hb, hg, hnc, hcm, hcs, ht⟩
  · obtain ⟨v', w', hr, hown, hgr, _, _⟩ := run_append_own_at (P := P) w B T ty E inf z k by' hT hinf hz hsz hby hzc k0 v n _ h ad m c (gks mc m) hl hnews h1' (by unfold maxLen; omega) (by omega) hB
    rw [gks_add] at hown
    refine ⟨v', w', hr, hown, ?_, owns_len hown⟩
    refine KG.above hB ⟨hgr.os, hgr.tape, hgr.output, hgr.size, fun i hi => hgr.block i hi (by rw [hv]; simp [Value.ownBlock])⟩
  · by_cases hroom : n + m ≤ cap
    · have hfit : n * inf.size + (gks mc m).length ≤ cur.size := by
        rw [hsz, hl, hcs, ← Nat.add_mul]
        exact Nat.mul_le_mul_right k hroom
      have hr := run_append_room (P := P) w T ty E inf hT hinf g n cap cur hg ad m c (gks mc m) (by rw [hsz]; exact hl) hnews h1' hroom hfit
      rw [hv]
      have hcell : ∀ j, (cur.toList.take (n * inf.size) ++ gks mc m ++ cur.toList.drop (n * inf.size + (gks mc m).length)).toArray[j]? = if n * k ≤ j ∧ j < (n + m) * k then mc[j % k]? else cur[j]? := fun j => by
        rw [hsz, hl, List.getElem?_toArray, List.append_assoc]
        have hadd : (n + m) * k = n * k + m * k := Nat.add_mul _ _ _
        rw [hsz, hl] at hfit
        have htl : (cur.toList.take (n * k)).length = n * k := by rw [List.length_take, Array.length_toList]; omega
        by_cases hj : j < n * k
        · rw [List.getElem?_append_left (by omega), List.getElem?_take, if_pos hj, if_neg (by omega), Array.getElem?_toList]
        · rw [List.getElem?_append_right (by omega), htl]
          by_cases hj2 : j < (n + m) * k
          · rw [List.getElem?_append_left (by rw [hl]; omega), if_pos (by omega), gks_at hk m (j - n * k) (by omega)]
            congr 1
            have : j = (j - n * k) + n * k := by omega
            conv => rhs; rw [this, Nat.add_mul_mod_self_right]
          · rw [List.getElem?_append_right (by rw [hl]; omega), hl, List.getElem?_drop, if_neg (by omega), Array.getElem?_toList]
            congr 1
            omega
      have hsize : (cur.toList.take (n * inf.size) ++ gks mc m ++ cur.toList.drop (n * inf.size + (gks mc m).length)).toArray.size = cur.size := by
        rw [hsz] at hfit ⊢
        simp only [List.size_toArray, List.length_append, List.length_take, List.length_drop, Array.length_toList]
        omega
      generalize (cur.toList.take (n * inf.size) ++ gks mc m ++ cur.toList.drop (n * inf.size + (gks mc m).length)).toArray = cur' at *
      have hg' := setRow_heap w g cur cur' E (0, 0) hg
      have hold := (gtake_iff hk k0 cur n).1 ht
      have hnew : ∀ (j : Nat) (u : Value), j < (n + m) * k → mc[j % k]? = some u → cur'[j]? = some u := fun j u hj hu => by
        rw [hcell]
        by_cases hjn : n * k ≤ j
        · rw [if_pos ⟨hjn, hj⟩, hu]
        · rw [if_neg (by omega)]
          exact hold j u (by omega) hu
      refine ⟨_, _, hr, ⟨gks_len hk _, .inr ⟨g, cap, cur', rfl, hb, hg', hroom, hcm, by rw [hsize]; exact hcs, (gtake_iff hk k0 cur' (n + m)).2 hnew⟩⟩, ⟨⟨rfl, rfl, rfl, by simp, fun i hi => setRow_other w g i _ (by omega)⟩, fun i ci hi => ?_, fun i _ hni => setRow_other w g i _ (fun e => hni cur (e ▸ hg))⟩, ⟨_, _, rfl⟩⟩
      by_cases hig : i = g
      · subst hig
        rw [hg] at hi
        cases hi
        refine ⟨cur', hg', hsize, fun j u hu hj => ?_⟩
        rw [hcell]
        split
        · exact hu
        · exact hj
      · exact ⟨ci, (setRow_other w g i _ hig).trans hi, rfl, fun _ _ _ h => h⟩
    · rw [hv] at h ⊢
      have holds : ∀ j u, (gks mc n)[j]? = some u → w.cell? ((⟨g, 0, none⟩ : Addr).add j) = some u := h.cells (g := g) rfl
      have hr := run_append_grow (P := P) w T ty E inf z hT hinf hz ⟨g, 0, none⟩ n cap (gks mc n) (by rw [hsz]; exact h.1) holds ad m c (gks mc m) (by rw [hsz]; exact hl) hnews (by omega) (by omega) (growslice_fits (by omega) (by rw [hby]; omega))
      obtain ⟨v', w', hr', hown, hgr, _, hloc⟩ := run_append_own_at (P := P) w B T ty E inf z k by' hT hinf hz hsz hby hzc k0 _ n _ h ad m c (gks mc m) hl hnews h1' (by unfold maxLen; omega) (by omega) hB
      rw [gks_add] at hown
      have he : w' = w.drew.alloc (.cells ((gks mc n).toArray ++ (gks mc m).toArray ++ Builtin.zeroCells z.cells (grownCap w (n + m) cap E - (n + m))) E) := by
        rw [hr] at hr'
        simp only [Result.ok.injEq] at hr'
        exact hr'.2.symm
      refine ⟨v', w', hr', hown, ?_, owns_len hown⟩
      rw [he]
      exact KG.above hB ⟨rfl, rfl, rfl, by simp, fun i hi => Below.heap_alloc w.drew _ i hi⟩
end Go.Proofs.YtmmflekajbeamaaDoor
