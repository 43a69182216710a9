/-
  Plans: the puts of a plan's text (crib.Puts).
  Plans: a plan is done (plans.Do, crib.Do).
  Plans: the puts of a plan's text, by the document's answer (cribref.Puts).
  Plans: crib.Do; the document's Do.
  Translates: the block at a place of the memory, the program's answer (block.Block).
  Sound and Turned, as plain mathematics: a plan's text is read back, a block's text too; the steps over a block's plain words; what a plan that is taken does.
-/
import Derived.Test.YtmmflekajbeamaaGreatDoorF05
import Derived.BigRegion
import Derived.Test.YtmmflekajbeamaaGreatDoorF07
import Derived.Laws.CopyRow
import Derived.Deep.Cut
import Derived.Deep.CutRange
import Derived.Test.YtmmflekajbeamaaGreatDoorF09
import Derived.Test.YtmmflekajbeamaaGreatDoorF03
namespace Go.Proofs.YtmmflekajbeamaaGreatDoor
open Go.RowKit

end Go.Proofs.YtmmflekajbeamaaGreatDoor

namespace Go.Proofs.YtmmflekajbeamaaGreatDoor
open Go.RowKit

theorem res_8 {fn : Func} {p u : Tmp} (h : fn.results = #[.cell p 25, .tmp u]) (tmps : Array Value) (w : World) (g : Nat) (z : List Int) (hz : z.length = 8)
    (hp : tmps.getD p undef = .pointer (some ⟨g, 0, none⟩)) (hg : RowI w g 25 z) (x : Value) (hu : tmps.getD u undef = x) :
    (results fn tmps).run Tryz.prog w = .ok (.tuple #[.agg (S z), x]) w := by
  rw [results_cell_tmp h, hp, hu]
  simp only [asAddr, Sem.run_pure, Result.andThen]
  rw [run_loadVar_row w g 25 25 (S z) (0, 0) _ hg Tryz.underlying25 rfl (by rw [size8, S_size, hz])]
theorem RowI.setRow8 {w : World} {g : Nat} {t : TypeId} {z : List Int} (h : RowI w g t z) (z' : List Int) : RowI (w.setRow g (S z')) g t z' := setRow_heap w g _ _ t (0, 0) h
theorem own_take' {w : World} {B : Nat} {v : Value} {n m : Nat} {xs : List Value} {e : TypeId} {k : Nat} (h : w.ownsRow B e k v n xs) (hn : n = m) : w.ownsRow B e k v m xs := hn ▸ h
theorem szI : (Tryz.prog.info? 3).map (·.size) = some 1 := by kernel_rfl
theorem S_app (a b : List Int) : (S (a ++ b)).toList = (S a).toList ++ (S b).toList := by simp [S]
set_option maxRecDepth 100000 in
theorem copy8 (w : World) (g g' : Nat) (z : List Int) (ty : TypeId) (h : RowI w g 222 (zr 16)) (h' : RowI w g' 25 z) (hz : z.length = 8) :
    (Builtin.copy_ #[121, 121] ty #[.slice (some ⟨g, 0, none⟩) 16 16, .slice (some ⟨g', 0, none⟩) 8 8]).run Tryz.prog w = .ok (.int .i64 8) (w.setRow g (S (begD z))) := by
  have hl : (S z).toList.length = 8 := by simp [S, hz]
  have := run_copy_row (P := Tryz.prog) w 121 121 ty 3 g 0 16 16 ⟨g', 0, none⟩ 8 8 (S (zr 16)) 222 (S z).toList Tryz.underlying121 szI h (by rw [hl]; rfl) (fun j v hj => by
      have hlt : j < 8 := by have := (List.getElem?_eq_some_iff.1 hj).1; omega
      have h1 := h'.cell j (by omega)
      rw [Array.getElem?_toList, S_get z j (by omega)] at hj
      cases hj
      have ea : (⟨g', 0, none⟩ : Addr).add j = ⟨g', j, none⟩ := by
        unfold Addr.add
        split
        · rename_i hj0; rw [hj0]
        · simp
      rw [ea]
      exact h1) (by rw [hl, S_size, zr_len]; decide) (fun v hv => by
      have := S_one z
      rw [Array.all_eq_true_iff_forall_mem] at this
      exact this v (by simpa using hv))
  rw [this, hl]
  congr 2
  rw [show begD z = z ++ zr 8 from rfl]
  apply Array.toList_inj.1
  have e : (S (zr 16)).toList.drop 8 = (S (zr 8)).toList := by simp [S, zr]
  rw [S_app, Nat.zero_add, e]
  simp
/-- The words of a machine are in their range. -/
def okRM (regs mem : List Int) : Prop := allW (gz regs) 8 = true ∧ allW (gz mem) 128 = true
theorem allW_WL {z : List Int} {n : Nat} (h : allW (gz z) n = true) (hl : z.length = n) : WL n z := by
  refine ⟨hl, fun x hx => ?_⟩
  obtain ⟨i, hi⟩ := List.getElem?_of_mem hx
  unfold allW at h
  have := List.all_eq_true.1 h i (List.mem_range.2 (by have := (List.getElem?_eq_some_iff.1 hi).1; omega))
  unfold gz at this
  rw [List.getD_eq_getElem?_getD, hi] at this
  exact (isW_iff _).1 this
/-- What Do leaves. -/
def DoPost (p : ByteArray) (regs mem : List Int) (w : World) (e' : Ending) (w' : World) : Prop :=
  Below w.heap.size w w' ∧ ((¬ okRM regs mem ∧ e' = .returned (.tuple #[.agg (S (zr 8)), .int .i64 8])) ∨ (okRM regs mem ∧ ¬ putsOK p ∧ e' = .returned (.tuple #[.agg (S (zr 8)), .int .i64 11])) ∨ (okRM regs mem ∧ putsOK p ∧ e' = .returned (.tuple #[.agg (S ((doL mem (putL p (p.size / 8)) (begD regs)).take 8)), .int .i64 0])))

set_option maxRecDepth 100000 in
set_option maxHeartbeats 2000000 in
theorem plansDo_any (p : ByteArray) (regs mem : List Int) (w : World) (hr : regs.length = 8) (hm : mem.length = 128) (hp : p.size ≤ maxLen) :
    Calls Tryz.prog 170 #[.string p, .agg (S regs), .agg (S mem)] w (DoPost p regs mem w) := by
  have z8 := zero8; have z16 := zero16
  obtain ⟨W0, hW0⟩ : ∃ W0, W0 = ((w.alloc (.cells (S regs) 25)).alloc (.cells (S mem) 26)).alloc (.cells (S (zr 8)) 25) := ⟨_, rfl⟩
  have HW := hide hW0
  have hb0 : Below w.heap.size w W0 := by rw [hW0]; exact below3 w _ _ _
  have hz0 : W0.heap.size = w.heap.size + 1 + 1 + 1 := by rw [hW0, size_alloc1, size_alloc1, size_alloc1]
  have r0 : RowI W0 w.heap.size 25 regs := by
    unfold RowI; rw [hW0, Below.heap_alloc _ _ _ (by rw [size_alloc1, size_alloc1]; omega), Below.heap_alloc _ _ _ (by rw [size_alloc1]; omega), _root_.Go.heap_alloc_new]
  have r1 : RowI W0 (w.heap.size + 1) 26 mem := by
    unfold RowI
    rw [hW0, Below.heap_alloc _ _ _ (by rw [size_alloc1, size_alloc1]; omega)]
    have := _root_.Go.heap_alloc_new (w.alloc (.cells (S regs) 25)) (.cells (S mem) 26)
    rw [size_alloc1] at this
    exact this
  have r2 : RowI W0 (w.heap.size + 1 + 1) 25 (zr 8) := by
    unfold RowI
    rw [hW0]
    have := _root_.Go.heap_alloc_new ((w.alloc (.cells (S regs) 25)).alloc (.cells (S mem) 26)) (.cells (S (zr 8)) 25)
    rw [size_alloc1, size_alloc1] at this
    exact this
  have H1 := hide (areWords_any w.heap.size 0 8 (gz regs) W0 (by omega) (fun i hi => by rw [Nat.zero_add]; exact r0.cell i (by omega)))
  have H2 := hide (areWords_any (w.heap.size + 1) 0 128 (gz mem) W0 (by omega) (fun i hi => by rw [Nat.zero_add]; exact r1.cell i (by omega)))
  have HR0 := hide r0; have HR1 := hide r1; have HR2 := hide r2; have HB0 := hide hb0
  have HBad : Hid (∀ w' n, Below w.heap.size w w' → RowI w' (w.heap.size + 1 + 1) 25 (zr 8) → ((n = 8 ∧ ¬ okRM regs mem) ∨ (n = 11 ∧ okRM regs mem ∧ ¬ putsOK p)) → DoPost p regs mem w (.returned (.tuple #[.agg (S (zr 8)), .int .i64 n])) w') := fun w' n hb _ hn => by
    rcases hn with ⟨rfl, h⟩ | ⟨rfl, h1, h2⟩
    · exact ⟨hb, .inl ⟨h, rfl⟩⟩
    · exact ⟨hb, .inr (.inl ⟨h1, h2, rfl⟩)⟩
  have HPt := hide (plansPuts_any p W0 hp)
  clear r0 r1 r2 hb0 hW0
  cases hq1 : allW (gz regs) 8
  · rw [hq1] at H1
    have HN : Hid (¬ okRM regs mem) := fun h => by have := h.1; rw [hq1] at this; cases this
    clear hq1 H2
    go_enter Tryz.func170, Tryz.ntmps170
    go_wp2_with fail
    rw [← HW.out]
    refine (unhide H1).mono ?_
    rintro e w' ⟨rfl, hw⟩
    obtain rfl := hw.symm
    go_wp2_with (refine wpList_storeR size8 rfl _ _ rfl (w.heap.size + 1 + 1) rfl (zr 8) rfl (zr_len 8) (HR2.out.isRow 8 (zr_len 8)) _ rfl ?_)
    exact bodyPost_ret (v := .tuple #[.agg (S (zr 8)), .int .i64 8]) (res_8 Tryz.results170 _ _ (w.heap.size + 1 + 1) (zr 8) (zr_len 8) rfl (HR2.out.setRow8 (zr 8)) _ rfl) rfl (HBad.out _ 8 (below_setRow HB0.out (by omega) _) (HR2.out.setRow8 (zr 8)) (.inl ⟨rfl, HN.out⟩))
  · rw [hq1] at H1
    cases hq2 : allW (gz mem) 128
    · rw [hq2] at H2
      have HN : Hid (¬ okRM regs mem) := fun h => by have := h.2; rw [hq2] at this; cases this
      clear hq1 hq2
      go_enter Tryz.func170, Tryz.ntmps170
      go_wp2_with fail
      rw [← HW.out]
      refine (unhide H1).mono ?_
      rintro e w' ⟨rfl, hw⟩
      obtain rfl := hw.symm
      go_wp2_with fail
      refine (unhide H2).mono ?_
      rintro e w' ⟨rfl, hw⟩
      obtain rfl := hw.symm
      go_wp2_with (refine wpList_storeR size8 rfl _ _ rfl (w.heap.size + 1 + 1) rfl (zr 8) rfl (zr_len 8) (HR2.out.isRow 8 (zr_len 8)) _ rfl ?_)
      exact bodyPost_ret (v := .tuple #[.agg (S (zr 8)), .int .i64 8]) (res_8 Tryz.results170 _ _ (w.heap.size + 1 + 1) (zr 8) (zr_len 8) rfl (HR2.out.setRow8 (zr 8)) _ rfl) rfl (HBad.out _ 8 (below_setRow HB0.out (by omega) _) (HR2.out.setRow8 (zr 8)) (.inl ⟨rfl, HN.out⟩))
    · rw [hq2] at H2
      have HOK : Hid (okRM regs mem) := ⟨hq1, hq2⟩
      have hWr := allW_WL hq1 hr
      have hWm := allW_WL hq2 hm
      clear hq1 hq2
      go_enter Tryz.func170, Tryz.ntmps170
      go_wp2_with fail
      rw [← HW.out]
      refine (unhide H1).mono ?_
      rintro e w' ⟨rfl, hw⟩
      obtain rfl := hw.symm
      go_wp2_with fail
      refine (unhide H2).mono ?_
      rintro e w' ⟨rfl, hw⟩
      obtain rfl := hw.symm
      go_wp2_with fail
      refine (unhide HPt).mono ?_
      rintro e w1 ⟨hb1, ⟨hpk, pv, rfl, hpo⟩ | ⟨hpn, rfl⟩⟩
      · have HB1 : Hid (Below w.heap.size w w1) := HB0.out.trans (hb1.mono HB0.out.size)
        have hz1 := hb1.size
        have HR0' := hide (HR0.out.keep (hb1.block _ (by omega)))
        have HR1' := hide (HR1.out.keep (hb1.block _ (by omega)))
        have HR2' := hide (HR2.out.keep (hb1.block _ (by omega)))
        have HPk := hide hpk; have HPo := hide (own_take' hpo (putL_len p _).symm)
        obtain ⟨pa, pc, rfl⟩ := owns_len hpo
        have hln : (putL p (p.size / 8)).length = p.size / 8 := putL_len p _
        have hpl10 : p.size / 8 ≤ 10 := by have := hpk.2.1; omega
        clear hb1 hpk hpo HPt H1 H2 HR0 HR1 HR2
        have r16 : RowI (w1.alloc (.cells (S (zr 16)) 222)) w1.heap.size 222 (zr 16) := _root_.Go.heap_alloc_new w1 _
        have hcp := fun ty => copy8 ((w1.alloc (.cells (S (zr 16)) 222)).drew) w1.heap.size w.heap.size regs ty (r16.keep rfl) (HR0'.out.keep (Below.heap_alloc w1 _ _ HR0'.out.lt)) hr
        have hrow : (w1.alloc (.cells (S (zr 16)) 222)).drew.setRow w1.heap.size (S (begD regs)) = (w1.alloc (.cells (S (begD regs)) 222)).drew := by rw [setRow_drew, setRow_alloc_at _ _ _ _ _ rfl]
        rw [hrow] at hcp
        clear hrow r16
        have HLp : Hid (RowI ((w1.alloc (.cells (S (begD regs)) 222)).drew) w1.heap.size 222 (begD regs)) := _root_.Go.heap_alloc_new w1 _
        have HBp : Hid (Below w1.heap.size w1 ((w1.alloc (.cells (S (begD regs)) 222)).drew)) := ((Below.refl _ _).alloc (Nat.le_refl _) _).drew
        go_wp2_with fail
        refine still_tail 2 (by kernel_rfl) (by kernel_rfl) ?_
        simp only [List.take_succ_cons, List.take_zero, List.drop_succ_cons, List.drop_zero]
        repeat still_step
        refine wpStill_nil ?_
        go_wp2_with fail
        clear hcp
        go_loopw [36] (fun i wr => ∃ k : Nat, k ≤ p.size / 8 ∧ i = .int .i64 k ∧ Hid (RowI wr w1.heap.size 222 (((putL p (p.size / 8)).take k).foldl (stD mem) (begD regs)) ∧ Below w1.heap.size w1 wr)) (fun i _ => p.size / 8 - (intOf i).toNat)
        case atStart => exact ⟨0, Nat.zero_le _, rfl, HLp.out, HBp.out⟩
        case round =>
          obtain ⟨k, hk, rfl, HRl⟩ := hrel
          have hwl := WL.fold hWm (putL_ok HPk.out) k (begD regs) (by omega) (WL.beg hWr)
          by_cases hlt : k < p.size / 8
          · have hlt' : (k : Int) < ((p.size / 8 : Nat) : Int) := by omega
            have hpk : (putL p (p.size / 8))[k]? = some ((putL p (p.size / 8))[k]'(by omega)) := List.getElem?_eq_getElem (by omega)
            have hmem := List.mem_of_getElem? hpk
            obtain ⟨hok, hkk⟩ := putL_ok HPk.out _ hmem
            have HStp : Hid (((putL p (p.size / 8)).take (k + 1)).foldl (stD mem) (begD regs) = (((putL p (p.size / 8)).take k).foldl (stD mem) (begD regs)).set ((putL p (p.size / 8))[k]'(by omega)).d (vD (((putL p (p.size / 8)).take k).foldl (stD mem) (begD regs)) mem ((putL p (p.size / 8))[k]'(by omega)))) := foldl_take_succ _ _ _ _ _ hpk
            obtain ⟨hrl, hbl⟩ := HRl.out
            have hPo := own_take' HPo.out rfl
            obtain ⟨g, cap, hform, _, hgl⟩ := HPo.out.form (by omega)
            obtain ⟨x0, x1, x2, x3, x4⟩ := put_cells (own_grow (own_take' (hform ▸ HPo.out) rfl) hbl) k _ hpk
            have hform' : pa = some ⟨g, 0, none⟩ := by injection hform
            subst hform'
            have hrm : RowI wr (w.heap.size + 1) 26 mem := HR1'.out.keep (hbl.block _ HR1'.out.lt)
            have hm1 : w.heap.size + 1 < w1.heap.size := HR1'.out.lt
            have hwz : w1.heap.size < wr.heap.size := hrl.lt
            have HV := hide (fun w' => plValue_any ((putL p (p.size / 8))[k]'(by omega)) (((putL p (p.size / 8)).take k).foldl (stD mem) (begD regs)) mem w' hok hwl hWm)
            generalize (putL p (p.size / 8))[k]'(by omega) = q at *
            have hd16 := hok.1
            have hd16' : (q.d : Int) < 16 := by omega
            generalize hL : ((putL p (p.size / 8)).take k).foldl (stD mem) (begD regs) = L at *
            clear hL
            have hFin : ∀ w2 v, Below wr.heap.size wr w2 → v = vD L mem q → RowI w2 w1.heap.size 222 L ∧ (RowI (w2.setCell ⟨w1.heap.size, q.d, none⟩ (.int .i64 v)) w1.heap.size 222 (((putL p (p.size / 8)).take (k + 1)).foldl (stD mem) (begD regs)) ∧ Below w1.heap.size w1 (w2.setCell ⟨w1.heap.size, q.d, none⟩ (.int .i64 v))) := fun w2 v hb hv => by
              have hr2 := hrl.keep (hb.block _ hwz)
              rw [HStp.out, ← hv]
              exact ⟨hr2, hr2.set _ _, (hbl.trans (hb.mono (Nat.le_of_lt hwz))).setCell (Nat.le_refl _) _⟩
            have HFin := hide hFin
            have hs16 := hide (fun w' (hr : isRowB w' w1.heap.size 16 = true) => load_rowD (P := Tryz.prog) (ty := 222) Tryz.underlying222 rfl size16 w' w1.heap.size hr)
            have hs128 := hide (fun w' (hr : isRowB w' (w.heap.size + 1) 128 = true) => load_rowD (P := Tryz.prog) (ty := 26) Tryz.underlying26 rfl size128 w' (w.heap.size + 1) hr)
            have rI := hrl.isRow 16 hwl.1
            have rD := hrl.rowD
            have rI2 := hrm.isRow 128 hm
            have rD2 := hrm.rowD
            have HRL := hide hrl; have HRM := hide hrm
            have HLL := hide hwl.1
            obtain ⟨pk, pd, pa', pb, pk'⟩ := q
            simp only [putV] at x0 x1 x2 x3 x4 hd16 hd16' HV HFin
            clear hFin hrl hrm hbl hpk hmem hok hkk hwl hPo hform HStp HPk HPo HRl hWr hWm
            go_wp2_with fail
            have e0 : ∀ (o : Obj) j x, o = .cells #[.int .i64 (pk : Int), .int .i64 (pd : Int), .int .i64 (pa' : Int), .int .i64 (pb : Int), .int .i64 (pk' : Int)] 123 → #[Value.int .i64 (pk : Int), .int .i64 (pd : Int), .int .i64 (pa' : Int), .int .i64 (pb : Int), .int .i64 (pk' : Int)][j]? = some x → (wr.alloc o).cell? ⟨wr.heap.size, j, none⟩ = some x := fun o j x ho hx => by
              rw [ho, World.cell?_alloc_at (hn := rfl)]; exact hx
            refine held_tail 5 1 (fun w' => w'.cell? ⟨wr.heap.size, 0, none⟩ = some (.int .i64 (pk : Int)) ∧ w'.cell? ⟨wr.heap.size, 1, none⟩ = some (.int .i64 (pd : Int)) ∧ w'.cell? ⟨wr.heap.size, 2, none⟩ = some (.int .i64 (pa' : Int)) ∧ w'.cell? ⟨wr.heap.size, 3, none⟩ = some (.int .i64 (pb : Int)) ∧ w'.cell? ⟨wr.heap.size, 4, none⟩ = some (.int .i64 (pk' : Int)) ∧ (isRowB w' w1.heap.size 16 = true ∧ rowD w' w1.heap.size = S L) ∧ (isRowB w' (w.heap.size + 1) 128 = true ∧ rowD w' (w.heap.size + 1) = S mem)) (by kernel_rfl) (by kernel_rfl) (fun d _ _ _ _ h => by cases d <;> exact h) ⟨e0 _ 0 _ rfl rfl, e0 _ 1 _ rfl rfl, e0 _ 2 _ rfl rfl, e0 _ 3 _ rfl rfl, e0 _ 4 _ rfl rfl, ⟨(isRowB_alloc_past _ _ _ _ hwz).trans rI, (rowD_alloc_past _ _ _ hwz).trans rD⟩, ⟨(isRowB_alloc_past _ _ _ _ (by omega)).trans rI2, (rowD_alloc_past _ _ _ (by omega)).trans rD2⟩⟩ ?_
            simp only [List.take_succ_cons, List.take_zero, List.drop_succ_cons, List.drop_zero]
            iterate 3
              refine wpTake_step ?_ rfl ?_ ?_
              rotate_left
              · rintro w' ⟨d0, d1, d2, d3, d4, d5, d6⟩
                go_simp
                rfl
              go_simp
            refine wpTake_step (.agg (S L)) rfl ?_ ?_
            · rintro w' ⟨d0, d1, d2, d3, d4, ⟨d5, d6⟩, d7⟩
              have hl := hs16.out w' d5
              rw [d6] at hl
              clear d0 d1 d2 d3 d4 d5 d6 d7
              simp only [execOp, Sem.run_bind]
              show Result.andThen (Sem.run Tryz.prog (Instr.loadAt 222 (.pointer (some ⟨w1.heap.size, 0, none⟩))) w') _ = _
              rw [hl]
              rfl
            go_simp
            refine wpTake_step (.agg (S mem)) rfl ?_ ?_
            · rintro w' ⟨d0, d1, d2, d3, d4, d7, ⟨d5, d6⟩⟩
              have hl := hs128.out w' d5
              rw [d6] at hl
              clear d0 d1 d2 d3 d4 d5 d6 d7
              simp only [execOp, Sem.run_bind]
              show Result.andThen (Sem.run Tryz.prog (Instr.loadAt 26 (.pointer (some ⟨w.heap.size + 1, 0, none⟩))) w') _ = _
              rw [hl]
              rfl
            go_simp
            refine wpTake_nil ?_
            refine wpTail_step rfl (fun K hK => ?_)
            go_simp
            refine (unhide HV _).mono ?_
            rintro e w2 ⟨rfl, hb2⟩
            have hb2' : Below wr.heap.size wr w2 := (((Below.refl _ _).alloc (Nat.le_refl _) _).drew).trans (hb2.mono (by show wr.heap.size ≤ (wr.alloc _).heap.size; rw [size_alloc1]; omega))
            have hbx : ∀ j x, #[Value.int .i64 (pk : Int), .int .i64 (pd : Int), .int .i64 (pa' : Int), .int .i64 (pb : Int), .int .i64 (pk' : Int)][j]? = some x → w2.cell? ⟨wr.heap.size, j, none⟩ = some x := fun j x hx =>
              (below_cell' hb2 _ _ (by show wr.heap.size < (wr.alloc _).heap.size; rw [size_alloc1]; omega)).trans (e0 _ j x rfl hx)
            obtain ⟨r16, HE⟩ := HFin.out w2 _ hb2' rfl
            have cc := r16.cell pd (by have := HLL.out; omega)
            have ff := r16.frozen pd
            have hrm2 := HRM.out.keep (hb2'.block _ HRM.out.lt)
            refine hK _ _ ⟨hbx 0 _ rfl, hbx 1 _ rfl, hbx 2 _ rfl, hbx 3 _ rfl, hbx 4 _ rfl, ⟨r16.isRow 16 HLL.out, r16.rowD⟩, ⟨hrm2.isRow 128 hm, hrm2.rowD⟩⟩ ?_
            have HEn := hide HE
            clear HE r16 hbx hK K e0 rI rD rI2 rD2 hs16 hs128 HV HFin hb2 hb2' hrm2
            unfold wpTailS
            go_wp2_with fail
            exact ⟨⟨k + 1, by omega, by go_num, HEn.out⟩, by simp [intOf]; omega⟩
          · have hkn : k = p.size / 8 := by omega
            have hlt' : ¬ (k : Int) < ((p.size / 8 : Nat) : Int) := by omega
            obtain ⟨h7, hbl⟩ := HRl.out
            rw [List.take_of_length_le (by omega)] at h7 hwl
            have hDo : Hid ((putL p (p.size / 8)).foldl (stD mem) (begD regs) = doL mem (putL p (p.size / 8)) (begD regs)) := rfl
            generalize (putL p (p.size / 8)).foldl (stD mem) (begD regs) = L at *
            have ln := hwl.1
            have y0 := h7.cell 0 (by omega); have y1 := h7.cell 1 (by omega); have y2 := h7.cell 2 (by omega); have y3 := h7.cell 3 (by omega)
            have y4 := h7.cell 4 (by omega); have y5 := h7.cell 5 (by omega); have y6 := h7.cell 6 (by omega); have y7 := h7.cell 7 (by omega)
            have h6 : RowI wr (w.heap.size + 1 + 1) 25 (zr 8) := HR2'.out.keep (hbl.block _ HR2'.out.lt)
            have rI := h6.isRow 8 (zr_len 8)
            have a8 := arr8
            have HEq : Hid ([gz L 0, gz L 1, gz L 2, gz L 3, gz L 4, gz L 5, gz L 6, gz L 7] = L.take 8) := by
              unfold Hid
              match L, ln with
              | [n0, n1, n2, n3, n4, n5, n6, n7, n8, n9, n10, n11, n12, n13, n14, n15], _ => rfl
            have H6 := hide h6
            have HBf := hide (HB1.out.trans (hbl.mono HB1.out.size))
            clear h6 h7 hbl hwl hkn HRl
            go_wp2_with (refine wpList_storeR size8 rfl _ _ rfl (w.heap.size + 1 + 1) rfl [gz L 0, gz L 1, gz L 2, gz L 3, gz L 4, gz L 5, gz L 6, gz L 7] rfl rfl rI _ rfl ?_)
            refine bodyPost_ret (v := .tuple #[.agg (S [gz L 0, gz L 1, gz L 2, gz L 3, gz L 4, gz L 5, gz L 6, gz L 7]), .int .i64 0]) (res_8 Tryz.results170 _ _ (w.heap.size + 1 + 1) _ rfl rfl (H6.out.setRow8 _) _ rfl) rfl ⟨below_setRow HBf.out (by omega) _, .inr (.inr ⟨HOK.out, HPk.out, ?_⟩)⟩
            rw [HEq.out, hDo.out]
      · have HB1 : Hid (Below w.heap.size w w1) := HB0.out.trans (hb1.mono HB0.out.size)
        have hz1 := hb1.size
        have HR2' := hide (HR2.out.keep (hb1.block _ (by omega)))
        have HN := hide hpn
        clear hb1 hpn HPt H1 H2
        go_wp2_with (refine wpList_storeR size8 rfl _ _ rfl (w.heap.size + 1 + 1) rfl (zr 8) rfl (zr_len 8) (HR2'.out.isRow 8 (zr_len 8)) _ rfl ?_)
        exact bodyPost_ret (v := .tuple #[.agg (S (zr 8)), .int .i64 11]) (res_8 Tryz.results170 _ _ (w.heap.size + 1 + 1) (zr 8) (zr_len 8) rfl (HR2'.out.setRow8 (zr 8)) _ rfl) rfl (HBad.out _ 11 (below_setRow HB1.out (by omega) _) (HR2'.out.setRow8 (zr 8)) (.inr ⟨rfl, HOK.out, HN.out⟩))
end Go.Proofs.YtmmflekajbeamaaGreatDoor

namespace Go.Proofs.YtmmflekajbeamaaGreatDoor
open Go.RowKit

end Go.Proofs.YtmmflekajbeamaaGreatDoor

namespace Go.Proofs.YtmmflekajbeamaaGreatDoor
open Go.RowKit

end Go.Proofs.YtmmflekajbeamaaGreatDoor

namespace Go.Proofs.YtmmflekajbeamaaGreatDoor
open Go.RowKit

theorem blkN_le (mem : List Int) : ∀ (f p : Nat), blkN mem f p ≤ f := by
  intro f
  induction f with
  | zero => intro p; exact Nat.le_refl _
  | succ f ih =>
    intro p
    rw [blkN]
    have := ih (p + 1)
    split
    · split <;> omega
    · omega
end Go.Proofs.YtmmflekajbeamaaGreatDoor

namespace Go.Proofs.YtmmflekajbeamaaGreatDoor

theorem bya_get (l : List UInt8) (i : Nat) : (bya l).get! i = l.getD i 0 := by
  show l.toArray[i]! = _
  rw [List.getElem!_toArray, List.getD_eq_getElem?_getD, getElem!_def]
  cases l[i]? <;> rfl
theorem beN4 {l : List UInt8} {i v : Nat} (hv : v < 4294967296) (h : ∀ j, j < 4 → l.getD (i + j) 0 = (numB 4 v).getD j 0) : beN (bya l) i 4 = v := by
  have h0 := h 0 (by decide); have h1 := h 1 (by decide); have h2 := h 2 (by decide); have h3 := h 3 (by decide)
  simp only [numB, List.getD_cons_zero, List.getD_cons_succ, Nat.reducePow, Nat.div_one] at h0 h1 h2 h3
  simp only [beN, bya_get, h0, h1, h2, h3, UInt8.toNat_ofNat']
  omega
theorem ofNat_toNat' {n : Nat} (h : n < 256) : (UInt8.ofNat n).toNat = n := by rw [UInt8.toNat_ofNat']; omega
/-- A put that its eight bytes can tell. -/
def bdP (p : PutN) : Prop := p.kind < 256 ∧ p.d < 256 ∧ p.a < 256 ∧ p.b < 256 ∧ p.k < 4294967296
theorem okPut.bd {p : PutN} (h : okPut p) (hk : p.k < 4294967296) : bdP p := by
  obtain ⟨h1, h2, h3, h4⟩ := h
  exact ⟨by omega, by omega, by omega, by omega, hk⟩
theorem putAt_plan {ps : List PutN} {j : Nat} {p : PutN} (h : ps[j]? = some p) (hb : bdP p) : putAt (bya (planT ps)) (8 * j) = p := by
  have key : ∀ i, i < 8 → (planT ps).getD (8 * j + i) 0 = (putT p).getD i 0 := fun i hi => by
    rw [List.getD_eq_getElem?_getD, List.getD_eq_getElem?_getD, Nat.mul_comm 8 j]
    rw [show (planT ps)[j * 8 + i]? = (putT p)[i]? from flat_atG putT 8 putT_len ps j p h i hi]
  obtain ⟨b0, b1, b2, b3, b4⟩ := hb
  obtain ⟨k, d, a, b, c⟩ := p
  simp only at b0 b1 b2 b3 b4
  unfold putAt
  have e0 := key 0 (by decide); have e1 := key 1 (by decide); have e2 := key 2 (by decide); have e3 := key 3 (by decide)
  simp only [putT, List.getD_cons_zero, List.getD_cons_succ, Nat.add_zero] at e0 e1 e2 e3
  rw [bya_get, bya_get, bya_get, bya_get, e0, e1, e2, e3, ofNat_toNat' b0, ofNat_toNat' b1, ofNat_toNat' b2, ofNat_toNat' b3]
  rw [beN4 b4 (fun i hi => by
    have := key (4 + i) (by omega)
    rw [← Nat.add_assoc] at this
    rw [this]
    simp only [putT]
    rw [Nat.add_comm 4 i]
    simp only [List.getD_cons_succ])]
theorem plan_size (ps : List PutN) : (bya (planT ps)).size / 8 = ps.length := by rw [bya_size, planT_len]; omega
theorem putL_plan {ps : List PutN} (hb : ∀ p ∈ ps, bdP p) : putL (bya (planT ps)) ((bya (planT ps)).size / 8) = ps := by
  rw [plan_size]
  apply List.ext_getElem?
  intro j
  unfold putL
  rw [List.getElem?_map]
  by_cases hj : j < ps.length
  · rw [List.getElem?_range hj, List.getElem?_eq_getElem hj]
    simp only [Option.map_some]
    rw [putAt_plan (List.getElem?_eq_getElem hj) (hb _ (List.getElem_mem _))]
  · rw [List.getElem?_eq_none (by simp; omega), List.getElem?_eq_none (by omega)]
    rfl
theorem putsOK_plan {ps : List PutN} (hb : ∀ p ∈ ps, okPut p ∧ p.k < 4294967296) (hl : ps.length ≤ 10) : putsOK (bya (planT ps)) := by
  refine ⟨by rw [bya_size, planT_len]; omega, by rw [bya_size, planT_len]; omega, fun j hj => ?_⟩
  rw [plan_size] at hj
  have hm := hb _ (List.getElem_mem hj)
  rw [putAt_plan (List.getElem?_eq_getElem hj) (hm.1.bd hm.2)]
  exact hm.1

/-! ### the block at a place -/
theorem wdAt_wds {ws : List Nat} {j : Nat} {v : Nat} (h : ws[j]? = some v) (hv : v < 4294967296) : wdAt (bya (wdsT ws)) j = v := by
  unfold wdAt
  refine beN4 hv (fun i hi => ?_)
  rw [List.getD_eq_getElem?_getD, List.getD_eq_getElem?_getD, Nat.mul_comm 4 j]
  rw [show (wdsT ws)[j * 4 + i]? = (numB 4 v)[i]? from flat_atG (numB 4) 4 (fun a => numB_len 4 a) ws j v h i hi]
theorem blkN_pl (mem : List Int) : ∀ (f p j : Nat), j + 1 < blkN mem f p → plW (mem.getD (p + j) 0) = true
  | 0, p, j, h => by simp [blkN] at h
  | f + 1, p, j, h => by
    rw [blkN] at h
    split at h
    · split at h
      · rename_i h1 h2
        cases j with
        | zero => exact h2
        | succ j =>
          have := blkN_pl mem f (p + 1) j (by omega)
          rw [show p + (j + 1) = p + 1 + j by omega]
          exact this
      · omega
    · omega
theorem blkN_in (mem : List Int) : ∀ (f p : Nat), p ≤ 128 → p + blkN mem f p ≤ 128
  | 0, p, h => by simpa [blkN] using h
  | f + 1, p, h => by
    rw [blkN]
    split
    · split
      · have := blkN_in mem f (p + 1) (by omega)
        omega
      · omega
    · omega
theorem blkN_pos (mem : List Int) (f p : Nat) (h : p < 128) : 1 ≤ blkN mem (f + 1) p := by
  rw [blkN, if_pos h]
  split <;> omega
theorem blk_size (mem : List Int) (pc : Nat) : (bya (blkTxt mem pc)).size = 4 * blkN mem 8 pc := by rw [bya_size, blkTxt, wdsT_len, blkW, List.length_map, List.length_range]
section
variable {mem : List Int} {pc : Nat}
theorem blk_wd (hm : WL 128 mem) (hp : pc < 128) {j : Nat} (hj : j < blkN mem 8 pc) : ((wdAt (bya (blkTxt mem pc)) j : Nat) : Int) = mem.getD (pc + j) 0 := by
  have he := blkN_in mem 8 pc (by omega)
  have hw := hm.2 (mem.getD (pc + j) 0) (by
    rw [List.getD_eq_getElem?_getD, List.getElem?_eq_getElem (by rw [hm.1]; omega)]
    exact List.getElem_mem _)
  unfold blkTxt
  rw [wdAt_wds (ws := blkW mem pc (blkN mem 8 pc)) (v := (mem.getD (pc + j) 0).toNat) (by
    unfold blkW
    rw [List.getElem?_map, List.getElem?_range hj]; rfl) (by omega)]
  omega
theorem blk_ok (hm : WL 128 mem) (hp : pc < 128) : blkOK (bya (blkTxt mem pc)) := by
  have hs := blk_size mem pc
  have h8 := blkN_le mem 8 pc
  have h1 : 1 ≤ blkN mem 8 pc := blkN_pos mem 7 pc hp
  refine ⟨by omega, by omega, by omega, fun j hj => ?_⟩
  rw [blk_wd hm hp (by omega)]
  exact blkN_pl mem 8 pc j (by omega)
theorem blk_pl (hm : WL 128 mem) (hp : pc < 128) {j : Nat} (hj : j < nPl (bya (blkTxt mem pc))) : j < blkN mem 8 pc ∧ plW (mem.getD (pc + j) 0) = true := by
  have hs := blk_size mem pc
  have hb := blk_ok hm hp
  have hn := nPl_le (bya (blkTxt mem pc))
  have hj' : j < blkN mem 8 pc := by omega
  have := blk_plain hb hj
  rw [blk_wd hm hp hj'] at this
  exact ⟨hj', this⟩
theorem blk_put (hm : WL 128 mem) (hp : pc < 128) {j : Nat} (hj : j < nPl (bya (blkTxt mem pc))) : (blkPuts (bya (blkTxt mem pc)))[j]? = some (putW (mem.getD (pc + j) 0)) := by
  unfold blkPuts
  rw [List.getElem?_map, List.getElem?_range hj]
  simp only [Option.map_some]
  rw [blk_wd hm hp (blk_pl hm hp hj).1]
end
/-- The machine behind k of a block's plain words. -/
def stZ (regs mem : List Int) (pc k : Nat) : List Int := mkZ (((blkPuts (bya (blkTxt mem pc))).take k).foldl (rD mem) regs) mem (((pc + k : Nat) : Int) % 128) 0
theorem rDs_WL {mem : List Int} (hm : WL 128 mem) : ∀ (ps : List PutN) {regs : List Int}, WL 8 regs → (∀ p ∈ ps, okB p) → WL 8 (ps.foldl (rD mem) regs)
  | [], _, h, _ => h
  | p :: ps, _, h, hk => rDs_WL hm ps (rD_WL h hm (hk p List.mem_cons_self)) (fun q hq => hk q (List.mem_cons_of_mem _ hq))
theorem stZ_WL {regs mem : List Int} {pc : Nat} (hr : WL 8 regs) (hm : WL 128 mem) (hp : pc < 128) (k : Nat) : WL 8 (((blkPuts (bya (blkTxt mem pc))).take k).foldl (rD mem) regs) :=
  rDs_WL hm _ hr (fun p h => blkPuts_okB (blk_ok hm hp) p (List.mem_of_mem_take h))
theorem stZ_zero {regs mem : List Int} {pc : Nat} (hp : pc < 128) : stZ regs mem pc 0 = mkZ regs mem pc 0 := by
  unfold stZ
  rw [List.take_zero, List.foldl_nil]
  congr 1
  omega
theorem stZ_step {regs mem : List Int} {pc k : Nat} (hr : WL 8 regs) (hm : WL 128 mem) (hp : pc < 128) (hk : k < nPl (bya (blkTxt mem pc))) : stp (stZ regs mem pc k) = (stZ regs mem pc (k + 1), 0) := by
  obtain ⟨h1, h2⟩ := blk_pl hm hp hk
  have he := blkN_in mem 8 pc (by omega)
  have e : (((pc + k : Nat) : Int) % 128) = ((pc + k : Nat) : Int) := by omega
  unfold stZ
  rw [e, stp_plain (stZ_WL hr hm hp k) hm (by omega) h2, foldl_take_succ _ _ _ _ _ (blk_put hm hp hk)]
  congr 2
theorem stZ_stB {regs mem : List Int} {pc : Nat} (hr : WL 8 regs) (hm : WL 128 mem) (hp : pc < 128) (k : Nat) : stB (stZ regs mem pc k) = true :=
  mkZ_stB (stZ_WL hr hm hp k) hm (by omega) (by omega) (by decide) (by decide)
theorem stZ_len {regs mem : List Int} {pc : Nat} (hr : WL 8 regs) (hm : WL 128 mem) (hp : pc < 128) (k : Nat) : (stZ regs mem pc k).length = 138 := mkZ_len (stZ_WL hr hm hp k).1 hm.1
/-- A plan that comes to the same does what the block's plain words do. -/
theorem sound_do {regs mem : List Int} {pc : Nat} (hr : WL 8 regs) (hm : WL 128 mem) (hp : pc < 128) {qs : List PutN} (hq : ∀ p ∈ qs, okPut p ∧ p.k < 4294967296) (h : (comeS (blkPuts (bya (blkTxt mem pc)))).take 8 = (comeS qs).take 8) :
    (doL mem qs (begD regs)).take 8 = ((blkPuts (bya (blkTxt mem pc))).take (nPl (bya (blkTxt mem pc)))).foldl (rD mem) regs := by
  have hk := blkPuts_okB (blk_ok hm hp)
  rw [← same_do (fun p hp' => ⟨(hk p hp').2.2.2.2.2.2, (hk p hp').2.2.2.2.2.1⟩) hq h mem hr.1, doL_regs hr.1 hk, List.take_of_length_le (by rw [nPl_len]; exact Nat.le_refl _)]
theorem own_bd {s : ByteArray} (h : blkOK s) : ∀ p ∈ ownP s, okPut p ∧ p.k < 4294967296 := fun p hp => by
  have := (ownP_ok h).1 p hp
  exact ⟨this.2.2.2.2.2.2, this.2.2.2.2.2.1⟩
end Go.Proofs.YtmmflekajbeamaaGreatDoor
