/-
  Plans: the words of a block, as the program holds them: whether a word is plain, how many are, whether one more may come (IsPlain, plainLen, mayGrow, add).
  Plans: the words of a block: whether one more may come, one more, the reading of a text (mayGrow, add, Read).
  Plans: the words of a block out of a text (block.Read).
  Plans: the fields of a block's plain words (Plain); puts that do what plain words do (ofWord, OfWords).
-/
import Derived.Test.YtmmflekajbeamaaDoorR13
namespace Go.Proofs.YtmmflekajbeamaaDoor
open Go.RowKit

def fieldsV (v : Int) : Array Value := #[.int .i64 (fop v), .int .i64 (fa v), .int .i64 (fb v), .int .i64 (fc v), .int .i64 (fk v)]
theorem arB_pl {op a b c : Int} (h : op = 1 ∨ op = 6 ∨ arB op = true) : plB op a b c = knB op a b c := by
  unfold arB at h
  rw [decide_eq_true_eq] at h
  exact kn_pl op a b c (by omega) (by omega) (by omega) (by omega) (by omega)
theorem pl_no {op a b c : Int} (h1 : ¬ op = 1) (h6 : ¬ op = 6) (ha : arB op = false) : plB op a b c = false := by
  unfold arB at ha
  rw [decide_eq_false_iff_not] at ha
  unfold plB
  rw [if_neg h1, if_neg ha, if_neg h6]
set_option maxRecDepth 100000 in
set_option maxHeartbeats 1000000 in
theorem isPlain_any (v : Int) (w : World) (ht : Tab w) :
    Calls Tryd.prog 161 #[.agg (fieldsV v)] w fun e' w' => e' = .returned (.bool (plW v)) ∧ Below w.heap.size w w' := by
  have hf := fop_bd v
  unfold plW fieldsV
  have HA := hide (fun w' => isArith_any (fop v) w')
  have HI := hide (fun w' (hb : Below w.heap.size w w') => isIns_any (fop v) (fa v) (fb v) (fc v) (fk v) w' hf.1 (ht.below ht.pos hb))
  generalize fop v = op at *
  generalize fa v = a at *
  generalize fb v = b at *
  generalize fc v = c at *
  generalize fk v = k at *
  have hb1 := hide ((Below.refl w.heap.size w).alloc (Nat.le_refl _) (.cells #[.int .i64 op, .int .i64 a, .int .i64 b, .int .i64 c, .int .i64 k] 166))
  have hfin : ∀ w1, Below (w.alloc (.cells #[.int .i64 op, .int .i64 a, .int .i64 b, .int .i64 c, .int .i64 k] 166)).heap.size (w.alloc (.cells #[.int .i64 op, .int .i64 a, .int .i64 b, .int .i64 c, .int .i64 k] 166)) w1 → Below w.heap.size w w1 := fun w1 h => hb1.out.trans (h.mono (by rw [size_alloc1]; omega))
  have HFin := hide hfin
  clear hfin
  by_cases h1 : op = 1
  · subst h1
    have HE : Hid (plB 1 a b c = knB 1 a b c) := arB_pl (.inl rfl)
    go_enter Tryd.func161, Tryd.ntmps161
    go_wp2_with fail
    refine (unhide HI _ hb1.out).mono ?_
    rintro e w1 ⟨rfl, hb2⟩
    have HB2 := hide hb2
    clear hb2
    go_wp2_with fail
    go_ret
    exact ⟨ret_bool HE.out.symm, HFin.out _ HB2.out⟩
  · have h1' : (op == 1) = false := by simpa using h1
    by_cases h6 : op = 6
    · subst h6
      have HE : Hid (plB 6 a b c = knB 6 a b c) := arB_pl (.inr (.inl rfl))
      go_enter Tryd.func161, Tryd.ntmps161
      go_wp2_with fail
      refine (unhide HI _ hb1.out).mono ?_
      rintro e w1 ⟨rfl, hb2⟩
      have HB2 := hide hb2
      clear hb2
      go_wp2_with fail
      go_ret
      exact ⟨ret_bool HE.out.symm, HFin.out _ HB2.out⟩
    · have h6' : (op == 6) = false := by simpa using h6
      cases har : arB op
      · have HE : Hid (plB op a b c = false) := pl_no h1 h6 har
        rw [har] at HA
        clear har h1 h6
        go_enter Tryd.func161, Tryd.ntmps161
        go_wp2_with fail
        refine (unhide HA _).mono ?_
        rintro e w' ⟨rfl, hw⟩
        obtain rfl := hw.symm
        go_wp2_with fail
        go_ret
        exact ⟨ret_bool HE.out.symm, hb1.out⟩
      · have HE : Hid (plB op a b c = knB op a b c) := arB_pl (.inr (.inr har))
        rw [har] at HA
        clear har h1 h6
        go_enter Tryd.func161, Tryd.ntmps161
        go_wp2_with fail
        refine (unhide HA _).mono ?_
        rintro e w' ⟨rfl, hw⟩
        obtain rfl := hw.symm
        go_wp2_with fail
        refine (unhide HI _ hb1.out).mono ?_
        rintro e w1 ⟨rfl, hb2⟩
        have HB2 := hide hb2
        clear hb2
        go_wp2_with fail
        go_ret
        exact ⟨ret_bool HE.out.symm, HFin.out _ HB2.out⟩

/-! ### the words of a block, nine cells -/
def wdZ (ws : List Nat) : List Int := (ws.length : Int) :: (nI ws ++ zr (8 - ws.length))
theorem wdZ_len {ws : List Nat} (h : ws.length ≤ 8) : (wdZ ws).length = 9 := by simp [wdZ, nI_len, zr_len]; omega
theorem wdZ_0 (ws : List Nat) : gz (wdZ ws) 0 = ws.length := rfl
theorem wdZ_at {ws : List Nat} {i : Nat} (h : i < ws.length) : gz (wdZ ws) (1 + i) = (ws.getD i 0 : Nat) := by
  rw [← nI_get]
  unfold gz wdZ
  rw [List.getD_eq_getElem?_getD, List.getD_eq_getElem?_getD, Nat.add_comm 1 i, List.getElem?_cons_succ, List.getElem?_append_left (by rw [nI_len]; exact h)]
theorem zr_succ (n : Nat) : zr (n + 1) = 0 :: zr n := rfl
theorem wdZ_add {ws : List Nat} (h : ws.length < 8) (v : Nat) : ((wdZ ws).set (1 + ws.length) (v : Int)).set 0 ((ws.length : Int) + 1) = wdZ (ws ++ [v]) := by
  unfold wdZ
  rw [Nat.add_comm 1 ws.length, List.set_cons_succ, List.set_cons_zero, List.set_append_right _ _ (by rw [nI_len]; exact Nat.le_refl _), nI_len, Nat.sub_self, show 8 - ws.length = (8 - (ws.length + 1)) + 1 by omega, zr_succ, List.set_cons_zero, List.length_append, List.length_singleton]
  congr 1
  have e : nI (ws ++ [v]) = nI ws ++ [(v : Int)] := by simp [nI]
  rw [e, List.append_assoc]
  rfl
/-- How many of them are plain: all, or all but the last. -/
def plN (ws : List Nat) : Nat := if 0 < ws.length ∧ plW (ws.getD (ws.length - 1) 0 : Nat) = false then ws.length - 1 else ws.length
theorem size9 : (Tryd.prog.info? 127).map (·.size) = some 9 := by kernel_rfl
theorem zero9 (w : World) : (zeroValue 127).run Tryd.prog w = .ok (.agg (S (wdZ []))) w := by kernel_rfl

set_option maxRecDepth 100000 in
set_option maxHeartbeats 1000000 in
theorem plainLen_any (ws : List Nat) (w : World) (ht : Tab w) (hl : ws.length ≤ 8) (hw : ∀ v ∈ ws, v < 4294967296) :
    Calls Tryd.prog 140 #[.agg (S (wdZ ws))] w fun e' w' => e' = .returned (.int .i64 (plN ws : Nat)) ∧ Below w.heap.size w w' := by
  have h0 := S_get (wdZ ws) 0 (by rw [wdZ_len hl]; decide)
  rw [wdZ_0] at h0
  have hb1 := hide ((Below.refl w.heap.size w).alloc (Nat.le_refl _) (.cells (S (wdZ ws)) 127))
  by_cases hp : 0 < ws.length
  · obtain ⟨m, hm⟩ : ∃ m, ws.length = m + 1 := ⟨ws.length - 1, by omega⟩
    have h1 := S_get (wdZ ws) (1 + m) (by rw [wdZ_len hl]; omega)
    rw [wdZ_at (by omega)] at h1
    have hv : ws.getD m 0 < 4294967296 := by
      rw [List.getD_eq_getElem?_getD, List.getElem?_eq_getElem (by omega)]
      exact hw _ (List.getElem_mem _)
    have HN : Hid (plN ws = if plW (ws.getD m 0 : Nat) = false then m else m + 1) := by
      unfold Hid plN
      rw [hm, Nat.add_sub_cancel]
      by_cases hq : plW (ws.getD m 0 : Nat) = false
      · rw [if_pos ⟨by omega, hq⟩, if_pos hq]
      · rw [if_neg (fun h => hq h.2), if_neg hq]
    have HSp := hide (fun w' => split_any (ws.getD m 0 : Nat) w' (by omega) (by omega))
    have HPl := hide (fun w' (hb : Below w.heap.size w w') => isPlain_any (ws.getD m 0 : Nat) w' (ht.below ht.pos hb))
    simp only [fieldsV] at HPl
    rw [hm] at h0
    have e0 : ((m + 1 : Nat) : Int) = (m : Int) + 1 := by omega
    rw [e0] at h0
    have hm8 : (m : Int) < 8 := by omega
    have hm7 : m < 8 := by omega
    generalize ws.getD m 0 = v at *
    clear hm hp e0
    generalize wdZ ws = z at *
    cases hq : plW (v : Int)
    · rw [hq] at HPl HN
      clear hq
      go_enter Tryd.func140, Tryd.ntmps140
      go_wp2_with fail
      refine (unhide HSp _).mono ?_
      rintro e w1 ⟨rfl, hb2⟩
      have hb2' : Below w.heap.size w w1 := hb1.out.trans (hb2.mono (by rw [size_alloc1]; omega))
      have c0 : w1.cell? ⟨w.heap.size, 0, none⟩ = some (.int .i64 ((m : Int) + 1)) := by rw [below_cell' hb2 _ _ (by rw [size_alloc1]; omega), World.cell?_alloc_at (hn := rfl)]; exact h0
      have HB2 := hide hb2'
      have hz2 : w.heap.size < w1.heap.size := block_lt_of_cell c0
      clear hb2 hb2'
      go_wp2_with fail
      refine (unhide HPl _ HB2.out).mono ?_
      rintro e w2 ⟨rfl, hb3⟩
      have d0 : w2.cell? ⟨w.heap.size, 0, none⟩ = some (.int .i64 ((m : Int) + 1)) := by rw [below_cell' hb3 _ _ hz2]; exact c0
      have HB3 : Hid (Below w.heap.size w w2) := HB2.out.trans (hb3.mono (Nat.le_of_lt hz2))
      clear hb3
      go_wp2_with fail
      go_ret
      exact ⟨ret_int (by rw [HN.out]; simp), HB3.out⟩
    · rw [hq] at HPl HN
      clear hq
      go_enter Tryd.func140, Tryd.ntmps140
      go_wp2_with fail
      refine (unhide HSp _).mono ?_
      rintro e w1 ⟨rfl, hb2⟩
      have hb2' : Below w.heap.size w w1 := hb1.out.trans (hb2.mono (by rw [size_alloc1]; omega))
      have c0 : w1.cell? ⟨w.heap.size, 0, none⟩ = some (.int .i64 ((m : Int) + 1)) := by rw [below_cell' hb2 _ _ (by rw [size_alloc1]; omega), World.cell?_alloc_at (hn := rfl)]; exact h0
      have HB2 := hide hb2'
      have hz2 : w.heap.size < w1.heap.size := block_lt_of_cell c0
      clear hb2 hb2'
      go_wp2_with fail
      refine (unhide HPl _ HB2.out).mono ?_
      rintro e w2 ⟨rfl, hb3⟩
      have d0 : w2.cell? ⟨w.heap.size, 0, none⟩ = some (.int .i64 ((m : Int) + 1)) := by rw [below_cell' hb3 _ _ hz2]; exact c0
      have HB3 : Hid (Below w.heap.size w w2) := HB2.out.trans (hb3.mono (Nat.le_of_lt hz2))
      clear hb3
      go_wp2_with fail
      go_ret
      exact ⟨ret_int (by rw [HN.out]; simp), HB3.out⟩
  · have hn : ws.length = 0 := by omega
    rw [hn] at h0
    have HN : Hid (plN ws = 0) := by unfold Hid plN; rw [if_neg (fun h => hp h.1), hn]
    clear hp hn
    generalize wdZ ws = z at *
    have h0' : (S z)[0]? = some (.int .i64 0) := h0
    clear h0
    go_enter Tryd.func140, Tryd.ntmps140
    go_wp2_with fail
    go_ret
    exact ⟨ret_int (by rw [HN.out]; rfl), hb1.out⟩
end Go.Proofs.YtmmflekajbeamaaDoor

namespace Go.Proofs.YtmmflekajbeamaaDoor
open Go.RowKit
attribute [local go_sem] Go.wp_at_zero Go.wp_at_succ

theorem S9 {z : List Int} (h : z.length = 9) : S z = #[.int .i64 (gz z 0), .int .i64 (gz z 1), .int .i64 (gz z 2), .int .i64 (gz z 3), .int .i64 (gz z 4), .int .i64 (gz z 5), .int .i64 (gz z 6), .int .i64 (gz z 7), .int .i64 (gz z 8)] := by
  match z, h with
  | [a, b, c, d, e, f, g, x, y], _ => rfl
def grB (ws : List Nat) : Bool := decide (ws.length < 8 ∧ plN ws = ws.length)

set_option maxRecDepth 100000 in
set_option maxHeartbeats 2000000 in
theorem mayGrow_any (ws : List Nat) (w : World) (ht : Tab w) (hl : ws.length ≤ 8) (hw : ∀ v ∈ ws, v < 4294967296) :
    Calls Tryd.prog 132 #[.agg (S (wdZ ws))] w fun e' w' => e' = .returned (.bool (grB ws)) ∧ Below w.heap.size w w' := by
  have hzl := wdZ_len hl
  have hx : ∀ i, i < 9 → (S (wdZ ws))[i]? = some (.int .i64 (gz (wdZ ws) i)) := fun i hi => S_get _ i (by omega)
  have h0 := hx 0 (by decide)
  rw [wdZ_0] at h0
  have hb1 := hide ((Below.refl w.heap.size w).alloc (Nat.le_refl _) (.cells (S (wdZ ws)) 127))
  by_cases h8 : ws.length < 8
  · have h8' : (ws.length : Int) < 8 := by omega
    have HP := hide (fun w' (hb : Below w.heap.size w w') => plainLen_any ws w' (ht.below ht.pos hb) hl hw)
    rw [S9 hzl, wdZ_0] at HP
    have x1 := hx 1 (by decide); have x2 := hx 2 (by decide); have x3 := hx 3 (by decide); have x4 := hx 4 (by decide); have x5 := hx 5 (by decide); have x6 := hx 6 (by decide); have x7 := hx 7 (by decide); have x8 := hx 8 (by decide)
    have HG : Hid ((((plN ws : Nat) : Int) == (ws.length : Int)) = grB ws) := by
      unfold Hid grB
      rw [Bool.eq_iff_iff, beq_iff_eq, decide_eq_true_eq]
      omega
    clear hx hzl
    generalize wdZ ws = z at *
    generalize grB ws = gr at *
    generalize plN ws = pn at *
    generalize ws.length = n at *
    go_enter Tryd.func132, Tryd.ntmps132
    go_wp2_with fail
    go_region_held3 (fun w' => w'.cell? ⟨w.heap.size, 0, none⟩ = some (.int .i64 (n : Int)) ∧ w'.cell? ⟨w.heap.size, 1, none⟩ = some (.int .i64 (gz z 1)) ∧ w'.cell? ⟨w.heap.size, 2, none⟩ = some (.int .i64 (gz z 2)) ∧ w'.cell? ⟨w.heap.size, 3, none⟩ = some (.int .i64 (gz z 3)) ∧ w'.cell? ⟨w.heap.size, 4, none⟩ = some (.int .i64 (gz z 4)) ∧ w'.cell? ⟨w.heap.size, 5, none⟩ = some (.int .i64 (gz z 5)) ∧ w'.cell? ⟨w.heap.size, 6, none⟩ = some (.int .i64 (gz z 6)) ∧ w'.cell? ⟨w.heap.size, 7, none⟩ = some (.int .i64 (gz z 7)) ∧ w'.cell? ⟨w.heap.size, 8, none⟩ = some (.int .i64 (gz z 8))) (go_keep) ((go_at_call 140; refine (unhide HP _ hb1.out.drew).mono ?_; rintro e w1 ⟨rfl, hb2⟩; have kk := fun j => below_cell' hb2 w.heap.size j (by show w.heap.size < (w.alloc _).heap.size; rw [size_alloc1]; omega)))
    have HB2 : Hid (Below w.heap.size w w1) := (hb1.out.drew).trans (hb2.mono (by show w.heap.size ≤ (w.alloc _).heap.size; rw [size_alloc1]; omega))
    clear hb2 kk
    go_wp2_with fail
    go_ret
    exact ⟨ret_bool HG.out, HB2.out⟩
  · have h8' : decide ((ws.length : Int) < 8) = false := by simp; omega
    have HG : Hid (grB ws = false) := by unfold Hid grB; rw [decide_eq_false_iff_not]; exact fun h => h8 h.1
    clear hx hzl
    generalize wdZ ws = z at *
    go_enter Tryd.func132, Tryd.ntmps132
    go_wp2_with fail
    go_quiet (fail)
    go_wp2_with fail
    go_ret
    exact ⟨ret_bool HG.out.symm, below_drewN hb1.out nq⟩

set_option maxRecDepth 100000 in
set_option maxHeartbeats 2000000 in
theorem addW_any (N : Nat) (ws : List Nat) (v : Nat) (w : World) (h : RowI w N 127 (wdZ ws)) (hl : ws.length < 8) :
    Calls Tryd.prog 133 #[.pointer (some ⟨N, 0, none⟩), .int .i64 (v : Int)] w fun e' w' => e' = .returned (.tuple #[]) ∧ RowI w' N 127 (wdZ (ws ++ [v])) ∧ (∀ B, B ≤ N → Below B w w') ∧ ∀ g, g ≠ N → w'.heap[g]? = w.heap[g]? := by
  have hzl := wdZ_len (Nat.le_of_lt hl)
  have c0 := h.cell 0 (by omega)
  rw [wdZ_0] at c0
  have c1 := h.cell (1 + ws.length) (by omega)
  have f0 := h.frozen 0
  have f1 := h.frozen (1 + ws.length)
  have HF : Hid (RowI ((w.drew.setCell ⟨N, 1 + ws.length, none⟩ (.int .i64 (v : Int))).setCell ⟨N, 0, none⟩ (.int .i64 ((ws.length : Int) + 1))) N 127 (wdZ (ws ++ [v]))) := by
    have := ((RowI.keep (w' := w.drew) h rfl).set (1 + ws.length) (v : Int)).set 0 ((ws.length : Int) + 1)
    rw [wdZ_add hl] at this
    exact this
  have hl' : (ws.length : Int) < 8 := by omega
  generalize ws.length = n at *
  generalize gz (wdZ ws) (1 + n) = y at *
  clear h hzl
  go_enter Tryd.func133, Tryd.ntmps133
  go_wp2_with fail
  refine still_tail 9 (by kernel_rfl) (by kernel_rfl) ?_
  simp only [List.take_succ_cons, List.take_zero, List.drop_succ_cons, List.drop_zero]
  repeat still_step
  refine wpStill_nil ?_
  go_wp2_with fail
  go_end0
  refine ⟨rfl, HF.out, fun B hB => (((Below.refl B w).drew).setCell hB _).setCell hB _, fun g hg => ?_⟩
  exact (heap_set_other _ _ hg).trans (heap_set_other _ _ hg)
end Go.Proofs.YtmmflekajbeamaaDoor

namespace Go.Proofs.YtmmflekajbeamaaDoor
open Go.RowKit

def blkL (s : ByteArray) (k : Nat) : List Nat := (List.range k).map (wdAt s)
theorem blkL_len (s : ByteArray) (k : Nat) : (blkL s k).length = k := by simp [blkL]
theorem blkL_succ (s : ByteArray) (k : Nat) : blkL s (k + 1) = blkL s k ++ [wdAt s k] := by simp [blkL, List.range_succ]
theorem blkL_bd (s : ByteArray) (k : Nat) : ∀ v ∈ blkL s k, v < 4294967296 := fun v hv => by
  obtain ⟨j, _, rfl⟩ := List.mem_map.1 hv
  exact wdAt_lt s j
theorem blkL_at (s : ByteArray) {k j : Nat} (h : j < k) : (blkL s k).getD j 0 = wdAt s j := by
  unfold blkL
  rw [List.getD_eq_getElem?_getD, List.getElem?_map, List.getElem?_range h]; rfl
theorem grB_iff (s : ByteArray) (k : Nat) : grB (blkL s k) = true ↔ k < 8 ∧ (0 < k → plW (wdAt s (k - 1)) = true) := by
  unfold grB plN
  rw [decide_eq_true_eq, blkL_len]
  by_cases h : 0 < k
  · rw [blkL_at s (by omega)]
    by_cases hp : plW (wdAt s (k - 1)) = true
    · rw [if_neg (fun h => by rw [hp] at h; exact absurd h.2 (by decide))]
      exact ⟨fun q => ⟨q.1, fun _ => hp⟩, fun q => ⟨q.1, rfl⟩⟩
    · rw [if_pos ⟨h, by simpa using hp⟩]
      exact ⟨fun q => by omega, fun q => absurd (q.2 h) hp⟩
  · rw [if_neg (fun q => h q.1)]
    exact ⟨fun q => ⟨q.1, fun q => absurd q h⟩, fun q => ⟨q.1, rfl⟩⟩
theorem res_W {fn : Func} {p u : Tmp} (h : fn.results = #[.cell p 127, .tmp u]) (tmps : Array Value) (w : World) (g : Nat) (z : List Int) (hz : z.length = 9)
    (hp : tmps.getD p undef = .pointer (some ⟨g, 0, none⟩)) (hg : RowI w g 127 z) (x : Value) (hu : tmps.getD u undef = x) :
    (results fn tmps).run Tryd.prog w = .ok (.tuple #[.agg (S z), x]) w := by
  rw [results_cell_tmp h, hp, hu]
  simp only [asAddr, Sem.run_pure, Result.andThen]
  rw [run_loadVar_row w g 127 127 (S z) (0, 0) _ hg Tryd.underlying127 rfl (by rw [size9, S_size, hz])]
theorem RowI.setRow {w : World} {g : Nat} {t : TypeId} {z : List Int} (h : RowI w g t z) (z' : List Int) : RowI (w.setRow g (S z')) g t z' := setRow_heap w g _ _ t (0, 0) h
theorem RowI.row_other {w : World} {g g' : Nat} {t : TypeId} {z : List Int} (h : RowI w g t z) (c : Array Value) (hne : g ≠ g') : RowI (w.setRow g' c) g t z := h.keep (setRow_other w g' g c hne)
/-- What a reading leaves. -/
def ReadPost (s : ByteArray) (w : World) (e' : Ending) (w' : World) : Prop :=
  Below w.heap.size w w' ∧ ((blkOK s ∧ e' = .returned (.tuple #[.agg (S (wdZ (blkL s (s.size / 4)))), .bool true])) ∨ (¬ blkOK s ∧ e' = .returned (.tuple #[.agg (S (wdZ [])), .bool false])))

set_option maxRecDepth 100000 in
set_option maxHeartbeats 2000000 in
theorem blkRead_any (s : ByteArray) (w : World) (ht : Tab w) (hs : s.size ≤ maxLen) :
    Calls Tryd.prog 98 #[.string s] w (ReadPost s w) := by
  unfold maxLen at hs
  have z9 := zero9
  have hr0 : RowI ((w.alloc (.cells (S (wdZ [])) 127)).alloc (.cells (S (wdZ [])) 127)) w.heap.size 127 (wdZ []) := by
    unfold RowI
    rw [Below.heap_alloc _ _ _ (by rw [size_alloc1]; omega), _root_.Go.heap_alloc_new]
  have hr1 : RowI ((w.alloc (.cells (S (wdZ [])) 127)).alloc (.cells (S (wdZ [])) 127)) (w.heap.size + 1) 127 (wdZ []) := by
    unfold RowI
    have := _root_.Go.heap_alloc_new (w.alloc (.cells (S (wdZ [])) 127)) (.cells (S (wdZ [])) 127)
    rw [size_alloc1] at this
    exact this
  have hb0 : Below w.heap.size w ((w.alloc (.cells (S (wdZ [])) 127)).alloc (.cells (S (wdZ [])) 127)) := ((Below.refl _ _).alloc (Nat.le_refl _) _).alloc (by rw [size_alloc1]; omega) _
  have HR0 := hide hr0; have HR1 := hide hr1; have HB0 := hide hb0; have HTb := hide ht
  have hpos := ht.pos
  clear hr0 hr1 hb0 ht
  have HBad : Hid (∀ w', Below w.heap.size w w' → ¬ blkOK s → ReadPost s w (.returned (.tuple #[.agg (S (wdZ [])), .bool false])) w') := fun w' hb hn => ⟨hb, .inr ⟨hn, rfl⟩⟩
  by_cases h0 : s.size = 0
  · have h0' : (s.size : Int) = 0 := by omega
    have HN : Hid (¬ blkOK s) := fun h => by have := h.1; omega
    clear h0
    go_enter Tryd.func98, Tryd.ntmps98
    go_wp2_with (first | (refine wpList_loadR rfl Tryd.underlying127 size9 rfl _ rfl (w.heap.size + 1) rfl (HR1.out.isRow 9 rfl) _ HR1.out.rowD ?_) | (refine wpList_storeR size9 rfl _ _ rfl w.heap.size rfl (wdZ []) rfl rfl (HR0.out.isRow 9 rfl) _ rfl ?_))
    exact bodyPost_ret (v := .tuple #[.agg (S (wdZ [])), .bool false]) (res_W Tryd.results98 _ _ w.heap.size (wdZ []) rfl rfl (HR0.out.setRow (wdZ [])) _ rfl) rfl (HBad.out _ (below_setRow HB0.out (Nat.le_refl _) _) HN.out)
  · have h0' : ((s.size : Int) == 0) = false := beq_eq_false_iff_ne.2 (by omega)
    by_cases h4 : s.size % 4 = 0
    · have h4' : (s.size : Int) % 4 = 0 := by omega
      go_enter Tryd.func98, Tryd.ntmps98
      go_wp2_with fail
      go_loopw [5] (fun i wr => ∃ k j : Nat, 4 * k ≤ s.size ∧ j = 4 * k ∧ i = .int .i64 j ∧ Hid (k ≤ 8 ∧ RowI wr w.heap.size 127 (wdZ []) ∧ RowI wr (w.heap.size + 1) 127 (wdZ (blkL s k)) ∧ Below w.heap.size w wr ∧ ∀ q, q + 1 < k → plW (wdAt s q) = true)) (fun i _ => s.size - (intOf i).toNat)
      case atStart => exact ⟨0, 0, Nat.zero_le _, rfl, rfl, Nat.zero_le _, HR0.out, HR1.out, HB0.out, fun q hq => by omega⟩
      case round =>
        obtain ⟨k, j, hk, hj, rfl, HR⟩ := hrel
        obtain ⟨k8, rr, rw', hbl, hpl⟩ := HR.out
        have HJ := hide hj
        have hlen := wdZ_len (ws := blkL s k) (by rw [blkL_len]; exact k8)
        have rI0 := rr.isRow 9 rfl
        have rI := rw'.isRow 9 hlen
        have rD := rw'.rowD
        have hwz : w.heap.size + 1 < wr.heap.size := rw'.lt
        by_cases hlt : j < s.size
        · have hlt' : (j : Int) < (s.size : Int) := by omega
          have HMg := hide (mayGrow_any (blkL s k) wr (HTb.out.below hpos hbl) (by rw [blkL_len]; exact k8) (blkL_bd s k))
          have hgr := grB_iff s k
          cases hq : grB (blkL s k)
          · rw [hq] at HMg hgr
            have HN : Hid (¬ blkOK s) := fun h => by
              have h32 := h.2.1
              by_cases h8 : k < 8
              · by_cases hk0 : 0 < k
                · have := h.2.2.2 (k - 1) (by omega)
                  exact absurd (hgr.2 ⟨h8, fun _ => this⟩) (by decide)
                · exact absurd (hgr.2 ⟨h8, fun q => absurd q hk0⟩) (by decide)
              · omega
            have HBl := hide hbl; have HRr := hide rr
            clear hq hgr hpl hbl hj hk h4 h4' k8 rr rw'
            go_wp2_with (refine wpList_loadR rfl Tryd.underlying127 size9 rfl _ rfl (w.heap.size + 1) rfl rI _ rD ?_)
            refine (unhide HMg).mono ?_
            rintro e w1 ⟨rfl, hb1⟩
            have HB1 : Hid (Below w.heap.size w w1) := HBl.out.trans (hb1.mono (by omega))
            have HR1 : Hid (RowI w1 w.heap.size 127 (wdZ [])) := HRr.out.keep (hb1.block _ (by omega))
            clear hb1
            go_wp2_with (refine wpList_storeR size9 rfl _ _ rfl w.heap.size rfl (wdZ []) rfl rfl (HR1.out.isRow 9 rfl) _ rfl ?_)
            exact bodyPost_ret (v := .tuple #[.agg (S (wdZ [])), .bool false]) (res_W Tryd.results98 _ _ w.heap.size (wdZ []) rfl rfl (HR1.out.setRow (wdZ [])) _ rfl) rfl (HBad.out _ (below_setRow HB1.out (Nat.le_refl _) _) HN.out)
          · rw [hq] at HMg hgr
            obtain ⟨h8, hpk⟩ := hgr.1 rfl
            have hj4 : (j : Int) + 4 ≤ (s.size : Int) := by omega
            have hj4n : j + 4 ≤ s.size := by omega
            have hnr := fun w' => numRead_any (s.extract j (j + 4)) w' (by rw [ByteArray.size_extract]; omega)
            have hsz : (s.extract j (j + 4)).size = 4 := by rw [ByteArray.size_extract]; omega
            have hwd : beN (s.extract j (j + 4)) 0 4 = wdAt s k := by
              have := extr_beN s j 4 0 hj4n 4 (by omega)
              rw [this, Nat.add_zero]
              unfold wdAt
              rw [hj]
            rw [hsz, hwd] at hnr
            have HNr := hide hnr
            have HFin : Hid (∀ w1 w2, Below wr.heap.size wr w1 → RowI w2 (w.heap.size + 1) 127 (wdZ (blkL s k ++ [wdAt s k])) → (∀ B, B ≤ w.heap.size + 1 → Below B w1 w2) → (∀ g, g ≠ w.heap.size + 1 → w2.heap[g]? = w1.heap[g]?) → (k + 1 ≤ 8 ∧ RowI w2 w.heap.size 127 (wdZ []) ∧ RowI w2 (w.heap.size + 1) 127 (wdZ (blkL s (k + 1))) ∧ Below w.heap.size w w2 ∧ ∀ q, q + 1 < k + 1 → plW (wdAt s q) = true)) := by
              intro w1 w2 b1 b2 b3 b4
              refine ⟨by omega, rr.keep ((b4 _ (by omega)).trans (b1.block _ (by omega))), by rw [blkL_succ]; exact b2, (hbl.trans (b1.mono (by omega))).trans (b3 _ (by omega)), fun q hq' => ?_⟩
              by_cases hqk : q + 1 < k
              · exact hpl q hqk
              · have : q = k - 1 := by omega
                rw [this]
                exact hpk (by omega)
            have hl8 : (blkL s k).length < 8 := by rw [blkL_len]; exact h8
            have HRw := hide rw'
            clear hq hgr hpl hbl hj hk h4 h4' k8 rr rw' hnr hsz hwd hpk
            go_wp2_with (refine wpList_loadR rfl Tryd.underlying127 size9 rfl _ rfl (w.heap.size + 1) rfl rI _ rD ?_)
            refine (unhide HMg).mono ?_
            rintro e w1 ⟨rfl, hb1⟩
            have HB1 := hide hb1
            have HAdd := hide (addW_any (w.heap.size + 1) (blkL s k) (wdAt s k) w1 (HRw.out.keep (hb1.block _ (by omega))) hl8)
            clear hb1
            go_wp2_with fail
            refine (unhide HNr _).mono ?_
            rintro e w' ⟨rfl, hw⟩
            obtain rfl := hw.symm
            go_wp2_with fail
            refine (unhide HAdd).mono ?_
            rintro e w2 ⟨rfl, b2, b3, b4⟩
            have HE := hide (HFin.out w1 w2 HB1.out b2 b3 b4)
            clear b2 b3 b4
            go_wp2_with fail
            refine ⟨⟨k + 1, j + 4, ?_, ?_, by go_num, HE.out⟩, by simp [intOf]; omega⟩
            · have := HJ.out; omega
            · have := HJ.out; omega
        · have hlt' : ¬ (j : Int) < (s.size : Int) := by omega
          have hkn : k = s.size / 4 := by omega
          have HOK : Hid (blkOK s) := ⟨by omega, by omega, h4, fun q hq => hpl q (by omega)⟩
          have HRr := hide rr; have HRw := hide rw'; have HBl := hide hbl; have HLen := hide hlen
          have HKn := hide hkn
          clear hpl hbl hj hk h4 h4' k8 rr rw' hlen hkn
          go_wp2_with (first | (refine wpList_loadR rfl Tryd.underlying127 size9 rfl _ rfl (w.heap.size + 1) rfl rI _ rD ?_) | (refine wpList_storeR size9 rfl _ _ rfl w.heap.size rfl (wdZ (blkL s k)) rfl HLen.out rI0 _ rfl ?_))
          refine bodyPost_ret (v := .tuple #[.agg (S (wdZ (blkL s k))), .bool true]) (res_W Tryd.results98 _ _ w.heap.size (wdZ (blkL s k)) HLen.out rfl (HRr.out.setRow (wdZ (blkL s k))) _ rfl) rfl ⟨below_setRow HBl.out (Nat.le_refl _) _, .inl ⟨HOK.out, ?_⟩⟩
          rw [HKn.out]
    · have h4' : ((s.size : Int) % 4 == 0) = false := by simp; omega
      have HN : Hid (¬ blkOK s) := fun h => h4 h.2.2.1
      clear h4
      go_enter Tryd.func98, Tryd.ntmps98
      go_wp2_with (first | (refine wpList_loadR rfl Tryd.underlying127 size9 rfl _ rfl (w.heap.size + 1) rfl (HR1.out.isRow 9 rfl) _ HR1.out.rowD ?_) | (refine wpList_storeR size9 rfl _ _ rfl w.heap.size rfl (wdZ []) rfl rfl (HR0.out.isRow 9 rfl) _ rfl ?_))
      exact bodyPost_ret (v := .tuple #[.agg (S (wdZ [])), .bool false]) (res_W Tryd.results98 _ _ w.heap.size (wdZ []) rfl rfl (HR0.out.setRow (wdZ [])) _ rfl) rfl (HBad.out _ (below_setRow HB0.out (Nat.le_refl _) _) HN.out)
end Go.Proofs.YtmmflekajbeamaaDoor

namespace Go.Proofs.YtmmflekajbeamaaDoor
open Go.RowKit

def fldCs (l : List Nat) : List Value := l.flatMap fun v : Nat => (fieldsV (v : Int)).toList
theorem fldCs_snoc (l : List Nat) (v : Nat) : fldCs (l ++ [v]) = fldCs l ++ (fieldsV (v : Int)).toList := by simp [fldCs]
theorem infoFld : ∃ i, Tryd.prog.info? 166 = some i ∧ i.zero = some (.agg #[.int .i64 0, .int .i64 0, .int .i64 0, .int .i64 0, .int .i64 0]) ∧ i.size = 5 ∧ i.bytes = 40 := by
  have h : (Tryd.prog.info? 166).map (fun i => (i.zero, i.size, i.bytes)) = some (some (.agg #[.int .i64 0, .int .i64 0, .int .i64 0, .int .i64 0, .int .i64 0]), 5, 40) := by kernel_rfl
  cases hq : Tryd.prog.info? 166 with
  | none => rw [hq] at h; cases h
  | some i =>
    rw [hq] at h
    simp only [Option.map_some, Option.some.injEq, Prod.mk.injEq] at h
    exact ⟨i, rfl, h.1, h.2.1, h.2.2⟩
theorem plN_le (ws : List Nat) : plN ws ≤ ws.length := by unfold plN; split <;> omega
theorem take_snoc' {α : Type} {l : List α} {k : Nat} {x : α} (h : l[k]? = some x) : l.take (k + 1) = l.take k ++ [x] := by
  rw [List.take_add_one, h]; rfl

set_option maxRecDepth 100000 in
set_option maxHeartbeats 2000000 in
theorem plain_list (ws : List Nat) (w : World) (ht : Tab w) (hl : ws.length ≤ 8) (hw : ∀ v ∈ ws, v < 4294967296) :
    Calls Tryd.prog 103 #[.agg (S (wdZ ws))] w fun e' w' => Below w.heap.size w w' ∧ ∃ v, e' = .returned v ∧ w'.ownsRow w.heap.size 166 5 v (plN ws) (fldCs (ws.take (plN ws))) := by
  obtain ⟨inf, hinf, hz, hsz1, hby⟩ := infoFld
  have HInf := hide hinf; have HZ := hide hz; have HSz := hide hsz1; have HBy := hide hby
  clear hinf hz hsz1 hby
  have hzl := wdZ_len hl
  have hr : RowI (w.alloc (.cells (S (wdZ ws)) 127)) w.heap.size 127 (wdZ ws) := _root_.Go.heap_alloc_new w _
  have hb1 := hide ((Below.refl w.heap.size w).alloc (Nat.le_refl _) (.cells (S (wdZ ws)) 127))
  have HP := hide (plainLen_any ws (w.alloc (.cells (S (wdZ ws)) 127)) (ht.below ht.pos hb1.out) hl hw)
  have hn8 : plN ws ≤ 8 := Nat.le_trans (plN_le ws) hl
  have hn8' : ((plN ws : Nat) : Int) ≤ 8 := by omega
  have hnl := plN_le ws
  have rI := hr.isRow 9 hzl
  have rD := hr.rowD
  have HRr := hide hr
  have HWd : Hid (∀ k, k < plN ws → ws[k]? = some (ws.getD k 0) ∧ ws.getD k 0 < 4294967296 ∧ gz (wdZ ws) (1 + k) = (ws.getD k 0 : Nat)) := fun k hk => by
    have hk' : k < ws.length := by omega
    refine ⟨by rw [List.getD_eq_getElem?_getD, List.getElem?_eq_getElem hk']; rfl, ?_, wdZ_at hk'⟩
    rw [List.getD_eq_getElem?_getD, List.getElem?_eq_getElem hk']
    exact hw _ (List.getElem_mem _)
  clear hr
  generalize hnn : plN ws = n at *
  clear hnn ht hw
  go_enter Tryd.func103, Tryd.ntmps103
  go_wp2_with (refine wpList_loadR rfl Tryd.underlying127 size9 rfl _ rfl w.heap.size rfl rI _ rD ?_)
  refine (unhide HP).mono ?_
  rintro e w1 ⟨rfl, hb2⟩
  have HR1 := hide (HRr.out.keep (hb2.block _ (by rw [size_alloc1]; omega)))
  have HB1 : Hid (Below w.heap.size w w1) := hb1.out.trans (hb2.mono (by rw [size_alloc1]; omega))
  have hz1 : w.heap.size < w1.heap.size := HR1.out.lt
  clear hb2 rI rD HP
  go_wp2_with fail
  go_loopw [3, 11] (fun v i wr => ∃ k : Nat, k ≤ n ∧ i = .int .i64 k ∧ wr.ownsRow (w.heap.size + 1) 166 5 v k (fldCs (ws.take k)) ∧ RowI wr w.heap.size 127 (wdZ ws) ∧ Below w.heap.size w wr) (fun _ i _ => n - (intOf i).toNat)
  case atStart => exact ⟨0, Nat.zero_le _, rfl, World.ownsRow_nil _ _ _ _, HR1.out, HB1.out⟩
  case round =>
    obtain ⟨k, hk, rfl, hown, hrow, hbl⟩ := hrel
    obtain ⟨va, vc, hv⟩ := owns_len hown
    subst hv
    have HO := hide hown; have HBl := hide hbl; have HRw := hide hrow
    have hwz : w.heap.size < wr.heap.size := hrow.lt
    by_cases hlt : k < n
    · have hlt' : (k : Int) < (n : Int) := by omega
      obtain ⟨e1, e2, e3⟩ := HWd.out k hlt
      have cc := hrow.cell (1 + k) (by omega)
      rw [e3] at cc
      have HS : Hid (fldCs (ws.take (k + 1)) = fldCs (ws.take k) ++ (fieldsV (ws.getD k 0 : Nat)).toList) := by unfold Hid; rw [take_snoc' e1, fldCs_snoc]
      have HSp := hide (fun w' => split_any (ws.getD k 0 : Nat) w' (by omega) (by omega))
      simp only [fieldsV] at HS
      generalize ws.getD k 0 = x at *
      generalize fop (x : Int) = f0 at *
      generalize fa (x : Int) = f1 at *
      generalize fb (x : Int) = f2 at *
      generalize fc (x : Int) = f3 at *
      generalize fk (x : Int) = f4 at *
      clear e1 e2 e3 hown hrow hbl
      go_wp2_with fail
      refine (unhide HSp _).mono ?_
      rintro e w2 ⟨rfl, hb2⟩
      have HB2 := hide hb2
      have hz2 := hb2.size
      have HO2 := hide (own_grow HO.out hb2)
      clear hb2
      go_wp2_with (at_builtin; refine wpList_append_lies _ rfl _ _ 135 rfl (w.heap.size + 1) 166 inf _ 5 40 Tryd.underlying135 HInf.out HZ.out HSz.out HBy.out rfl (by decide) (.slice va k vc) k (fldCs (ws.take k)) rfl (HO2.out.alloc _) ⟨w2.heap.size, 0, none⟩ 1 1 [.int .i64 f0, .int .i64 f1, .int .i64 f2, .int .i64 f3, .int .i64 f4] rfl rfl (World.news_of_block (_root_.Go.heap_alloc_new w2 _)) (fun u hu => by simp at hu; rcases hu with rfl | rfl | rfl | rfl | rfl <;> rfl) (by decide) (by unfold maxLen; omega) (by omega) (by rw [size_alloc1]; omega) (w2.heap.size + 1) (by rw [size_alloc1]) ?_; intro g2' cap2 w3 hown2 hgr2 hat2 hlt2; have HO3 := hide hown2; have HGr := hide hgr2; clear hown2 hgr2 hat2)
      refine ⟨⟨k + 1, by omega, by go_num, ?_, ?_, ?_⟩, by simp [intOf]; omega⟩
      · rw [HS.out]
        exact HO3.out
      · refine (HRw.out.keep (HB2.out.block _ hwz)).keep ((HGr.out.block _ (by show w.heap.size < (w2.alloc _).heap.size; rw [size_alloc1]; omega) (fun e => ?_)).trans (Below.heap_alloc w2 _ _ (by omega)))
        have := (row_lt HO2.out _ e.symm).1
        omega
      · exact ((HBl.out.trans (HB2.out.mono (by omega))).alloc (by omega) _).grown HGr.out (by rw [size_alloc1]; omega) (fun q hq => by have := (row_lt HO2.out q hq).1; omega)
    · have hlt' : ¬ (k : Int) < (n : Int) := by omega
      obtain rfl : n = k := by omega
      have HO' : Hid (wr.ownsRow w.heap.size 166 5 (.slice va n vc) n (fldCs (ws.take n))) := ⟨HO.out.1, HO.out.2.imp id (fun ⟨g, cap, cur, q1, q2, q3⟩ => ⟨g, cap, cur, q1, by omega, q3⟩)⟩
      clear hown hrow hbl
      go_wp2_with fail
      go_ret
      exact ⟨HBl.out, _, rfl, HO'.out⟩

theorem putW_set {v : Int} (h : fop v = 1) : putV (putW v) = #[.int .i64 1, .int .i64 (fa v), .int .i64 0, .int .i64 0, .int .i64 (fk v)] := by
  have a := fa_bd v; have k := fk_bd v
  unfold putW putV
  rw [if_pos h]
  simp only [Int.toNat_of_nonneg a.1, Int.toNat_of_nonneg k.1]
  rfl
theorem putW_load {v : Int} (h : fop v = 6) : putV (putW v) = #[.int .i64 6, .int .i64 (fa v), .int .i64 (fb v), .int .i64 0, .int .i64 (fk v)] := by
  have a := fa_bd v; have b := fb_bd v; have k := fk_bd v
  unfold putW putV
  rw [if_neg (by omega), if_pos h]
  simp only [Int.toNat_of_nonneg a.1, Int.toNat_of_nonneg b.1, Int.toNat_of_nonneg k.1]
  rfl
theorem putW_op {v : Int} (h1 : ¬ fop v = 1) (h6 : ¬ fop v = 6) : putV (putW v) = #[.int .i64 (fop v), .int .i64 (fa v), .int .i64 (fb v), .int .i64 (fc v), .int .i64 0] := by
  have o := fop_bd v; have a := fa_bd v; have b := fb_bd v; have c := fc_bd v
  unfold putW putV
  rw [if_neg h1, if_neg h6]
  simp only [Int.toNat_of_nonneg o.1, Int.toNat_of_nonneg a.1, Int.toNat_of_nonneg b.1, Int.toNat_of_nonneg c.1]
  rfl
set_option maxRecDepth 100000 in
set_option maxHeartbeats 2000000 in
theorem ofWord_any (v : Int) (w : World) :
    Calls Tryd.prog 139 #[.agg (fieldsV v)] w fun e' w' => e' = .returned (.agg (putV (putW v))) ∧ Below w.heap.size w w' := by
  have hb2 : ∀ o1 o2, Below w.heap.size w ((w.alloc o1).alloc o2) := fun o1 o2 => ((Below.refl _ _).alloc (Nat.le_refl _) _).alloc (by rw [size_alloc1]; omega) _
  have HB := hide hb2
  clear hb2
  unfold fieldsV
  by_cases h1 : fop v = 1
  · have HE := hide (putW_set h1)
    rw [h1]
    generalize fa v = a at *
    generalize fb v = b at *
    generalize fc v = c at *
    generalize fk v = k at *
    clear h1
    go_enter Tryd.func139, Tryd.ntmps139
    go_wp2_with fail
    rw [HE.out]
    exact bodyPost_ret (v := .agg #[.int .i64 1, .int .i64 a, .int .i64 0, .int .i64 0, .int .i64 k]) (by simp [results, Tryd.results139, go_sem]) rfl ⟨rfl, HB.out _ _⟩
  · have h1' : (fop v == 1) = false := by simpa using h1
    by_cases h6 : fop v = 6
    · have HE := hide (putW_load h6)
      rw [h6]
      generalize fa v = a at *
      generalize fb v = b at *
      generalize fc v = c at *
      generalize fk v = k at *
      clear h1 h6 h1'
      go_enter Tryd.func139, Tryd.ntmps139
      go_wp2_with fail
      rw [HE.out]
      exact bodyPost_ret (v := .agg #[.int .i64 6, .int .i64 a, .int .i64 b, .int .i64 0, .int .i64 k]) (by simp [results, Tryd.results139, go_sem]) rfl ⟨rfl, HB.out _ _⟩
    · have h6' : (fop v == 6) = false := by simpa using h6
      have HE := hide (putW_op h1 h6)
      generalize fop v = o at *
      generalize fa v = a at *
      generalize fb v = b at *
      generalize fc v = c at *
      generalize fk v = k at *
      clear h1 h6
      go_enter Tryd.func139, Tryd.ntmps139
      go_wp2_with fail
      rw [HE.out]
      exact bodyPost_ret (v := .agg #[.int .i64 o, .int .i64 a, .int .i64 b, .int .i64 c, .int .i64 0]) (by simp [results, Tryd.results139, go_sem]) rfl ⟨rfl, HB.out _ _⟩

theorem fld_cells {w : World} {B : Nat} {g cap : Nat} {l : List Nat} (h : w.ownsRow B 166 5 (.slice (some ⟨g, 0, none⟩) l.length cap) l.length (fldCs l)) (n : Nat) (v : Nat) (hn : l[n]? = some v) :
    w.cell? ⟨g, n * 5, none⟩ = some (.int .i64 (fop v)) ∧ w.cell? ⟨g, n * 5 + 1, none⟩ = some (.int .i64 (fa v)) ∧ w.cell? ⟨g, n * 5 + 1 + 1, none⟩ = some (.int .i64 (fb v)) ∧ w.cell? ⟨g, n * 5 + 1 + 1 + 1, none⟩ = some (.int .i64 (fc v)) ∧ w.cell? ⟨g, n * 5 + 1 + 1 + 1 + 1, none⟩ = some (.int .i64 (fk v)) := by
  have hlt : n < l.length := (List.getElem?_eq_some_iff.1 hn).1
  have key := flat_at (fun v : Nat => (fieldsV (v : Int)).toList) 5 (fun _ => rfl) l n v hn
  have k0 := key 0 (by decide); have k1 := key 1 (by decide); have k2 := key 2 (by decide); have k3 := key 3 (by decide); have k4 := key 4 (by decide)
  refine ⟨?_, ?_, ?_, ?_, ?_⟩
  · rw [h.cellAt _ (by omega)]; exact k0
  · rw [h.cellAt _ (by omega)]; exact k1
  · rw [h.cellAt _ (by omega)]; exact k2
  · rw [h.cellAt _ (by omega)]; exact k3
  · rw [h.cellAt _ (by omega)]; exact k4
def pwL (l : List Nat) : List PutN := l.map fun v : Nat => putW (v : Int)
theorem pwL_snoc (l : List Nat) (v : Nat) : pwL (l ++ [v]) = pwL l ++ [putW (v : Int)] := by simp [pwL]

set_option maxRecDepth 100000 in
set_option maxHeartbeats 2000000 in
theorem ofWords_any (B' : Nat) (fv : Value) (l : List Nat) (w : World) (hf : w.ownsRow B' 166 5 fv l.length (fldCs l)) (hl : l.length ≤ 8) :
    Calls Tryd.prog 102 #[fv] w fun e' w' => Below w.heap.size w w' ∧ ∃ v, e' = .returned v ∧ w'.ownsRow w.heap.size 59 5 v l.length (putCs (pwL l)) := by
  obtain ⟨inf, hinf, hz, hsz1, hby⟩ := infoPut
  have HInf := hide hinf; have HZ := hide hz; have HSz := hide hsz1; have HBy := hide hby
  clear hinf hz hsz1 hby
  obtain ⟨fa', fc', rfl⟩ := owns_len hf
  have HF := hide hf
  clear hf
  go_enter Tryd.func102, Tryd.ntmps102
  go_wp2_with fail
  go_loopw [3, 8] (fun v i wr => ∃ k : Nat, k ≤ l.length ∧ i = .int .i64 k ∧ wr.ownsRow w.heap.size 59 5 v k (putCs (pwL (l.take k))) ∧ Below w.heap.size w wr) (fun _ i _ => l.length - (intOf i).toNat)
  case atStart => exact ⟨0, Nat.zero_le _, rfl, World.ownsRow_nil _ _ _ _, Below.refl _ _⟩
  case round =>
    obtain ⟨k, hk, rfl, hown, hbl⟩ := hrel
    obtain ⟨va, vc, hv⟩ := owns_len hown
    subst hv
    have HO := hide hown; have HBl := hide hbl
    have hwz := hbl.size
    by_cases hlt : k < l.length
    · have hlt' : (k : Int) < (l.length : Int) := by omega
      obtain ⟨g, cap, hform, _, hgl⟩ := HF.out.form (by omega)
      cases hform
      have hx : l[k]? = some l[k] := List.getElem?_eq_getElem hlt
      obtain ⟨x0, x1, x2, x3, x4⟩ := fld_cells (own_grow HF.out hbl) k l[k] hx
      have HS : Hid (putCs (pwL (l.take (k + 1))) = putCs (pwL (l.take k)) ++ (putV (putW (l[k] : Nat))).toList) := by unfold Hid; rw [take_snoc' hx, pwL_snoc, putCs_snoc]
      have HOf := hide (fun w' => ofWord_any (l[k] : Nat) w')
      simp only [fieldsV] at HOf
      generalize l[k] = x at *
      generalize putW (x : Int) = p at *
      generalize fop (x : Int) = f0 at *
      generalize fa (x : Int) = f1 at *
      generalize fb (x : Int) = f2 at *
      generalize fc (x : Int) = f3 at *
      generalize fk (x : Int) = f4 at *
      obtain ⟨p0, p1, p2, p3, p4⟩ := p
      simp only [putV] at HOf HS
      clear hx hown hbl
      go_wp2_with fail
      refine (unhide HOf _).mono ?_
      rintro e w2 ⟨rfl, hb2⟩
      have HB2 := hide hb2
      have hz2 := hb2.size
      rw [size_alloc1] at hz2
      have HO2 := hide (own_grow (own_grow HO.out ((Below.refl _ _).alloc (Nat.le_refl _) _)) hb2)
      clear hb2
      go_wp2_with (at_builtin; refine wpList_append_lies _ rfl _ _ 61 rfl w.heap.size 59 inf _ 5 40 Tryd.underlying61 HInf.out HZ.out HSz.out HBy.out rfl (by decide) (.slice va k vc) k (putCs (pwL (l.take k))) rfl (HO2.out.alloc _) ⟨w2.heap.size, 0, none⟩ 1 1 [.int .i64 (p0 : Int), .int .i64 (p1 : Int), .int .i64 (p2 : Int), .int .i64 (p3 : Int), .int .i64 (p4 : Int)] rfl rfl (World.news_of_block (_root_.Go.heap_alloc_new w2 _)) (fun u hu => by simp at hu; rcases hu with rfl | rfl | rfl | rfl | rfl <;> rfl) (by decide) (by unfold maxLen; omega) (by omega) (by rw [size_alloc1]; omega) (w2.heap.size + 1) (by rw [size_alloc1]) ?_; intro g2' cap2 w3 hown2 hgr2 hat2 hlt2; have HO3 := hide hown2; have HGr := hide hgr2; clear hown2 hgr2 hat2)
      refine ⟨⟨k + 1, by omega, by go_num, ?_, ?_⟩, by simp [intOf]; omega⟩
      · rw [HS.out]
        exact HO3.out
      · exact (((HBl.out.alloc hwz _).trans (HB2.out.mono (by rw [size_alloc1]; omega))).alloc (by omega) _).grown HGr.out (by rw [size_alloc1]; omega) (fun q hq => (row_lt HO2.out q hq).1)
    · have hlt' : ¬ (k : Int) < (l.length : Int) := by omega
      have hkn : k = l.length := by omega
      subst hkn
      rw [List.take_length] at HO
      clear hown hbl
      go_wp2_with fail
      go_ret
      exact ⟨HBl.out, _, rfl, HO.out⟩
end Go.Proofs.YtmmflekajbeamaaDoor
