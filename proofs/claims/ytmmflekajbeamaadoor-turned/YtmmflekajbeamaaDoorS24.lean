/-
  Plans: two rows of numbers held against each other; Accept.
  Sound: the steps over a block's plain words (stepped).
  Plans, the document's answer: are these the words of a block (IsBlock); what slots are at first (begin).
-/
import Derived.Test.YtmmflekajbeamaaDoorS16
import Derived.Test.YtmmflekajbeamaaDoorS02
import Derived.ChangeKeysEq
import Derived.Test.YtmmflekajbeamaaDoorS21
import Derived.Test.YtmmflekajbeamaaDoorS23
import Derived.Test.YtmmflekajbeamaaDoorS17
namespace Go.Proofs.YtmmflekajbeamaaDoor
open Go.RowKit Go.Maps Go.WideMaps

theorem eqItems_gen {P : Program} (d : Nat) {e : TypeId} (he : P.underlying e = some (.int .i64)) (x y : List Int) (w : World) : ∀ (is : List Nat), (∀ i ∈ is, i < x.length ∧ i < y.length) →
    (Op.eqItems (d + 1) e 1 (S x) (S y) is).run P w = .ok (is.all fun i => gz x i == gz y i) w
  | [], _ => by simp [Op.eqItems]
  | i :: is, h => by
    obtain ⟨h1, h2⟩ := h i (by simp)
    have px : (part e (S x) (i * 1)).run P w = .ok (.int .i64 (gz x i)) w := by
      rw [Nat.mul_one]
      simp [part, isAgg, run_underlying he, S_get x i h1]
    have py : (part e (S y) (i * 1)).run P w = .ok (.int .i64 (gz y i)) w := by
      rw [Nat.mul_one]
      simp [part, isAgg, run_underlying he, S_get y i h2]
    have pe : (Op.equalIn (d + 1) e (.int .i64 (gz x i)) (.int .i64 (gz y i))).run P w = .ok (gz x i == gz y i) w := run_equalIn_int w d e .i64 .i64 _ _ he
    simp only [Op.eqItems, Sem.run_bind, px, py, pe, Result.andThen_ok, List.all_cons]
    cases hq : (gz x i == gz y i)
    · simp
    · simpa using eqItems_gen d he x y w is (fun j hj => h j (by simp [hj]))
theorem csI1 : Tryd.prog.cellsOf 3 = 1 := by kernel_rfl
theorem infI1 : ∃ i, Tryd.prog.info? 3 = some i := by
  cases h : Tryd.prog.info? 3 with
  | none => exact absurd (show (Tryd.prog.info? 3).isSome = true by kernel_rfl) (by rw [h]; decide)
  | some i => exact ⟨i, rfl⟩
theorem all_eq {x y : List Int} {n : Nat} (hx : x.length = n) (hy : y.length = n) : ((List.range n).all fun i => gz x i == gz y i) = decide (x = y) := by
  rw [Bool.eq_iff_iff, List.all_eq_true, decide_eq_true_eq]
  constructor
  · intro h
    apply List.ext_getElem?
    intro i
    by_cases hi : i < n
    · have := h i (List.mem_range.2 hi)
      rw [beq_iff_eq] at this
      unfold gz at this
      rw [List.getD_eq_getElem?_getD, List.getD_eq_getElem?_getD, List.getElem?_eq_getElem (by omega), List.getElem?_eq_getElem (by omega)] at this
      rw [List.getElem?_eq_getElem (by omega), List.getElem?_eq_getElem (by omega)]
      simpa using this
    · rw [List.getElem?_eq_none (by omega), List.getElem?_eq_none (by omega)]
  · rintro rfl i _
    exact beq_self_eq_true _
theorem eq8 (x y : List Int) (hx : x.length = 8) (hy : y.length = 8) (w : World) : (binOp .eql 31 (.agg (S x)) (.agg (S y))).run Tryd.prog w = .ok (.bool (decide (x = y))) w := by
  obtain ⟨i, hi⟩ := infI1
  rw [run_eql_struct, run_equalIn_array w 9999 (S x) (S y) Tryd.underlying31 hi, csI1, eqItems_gen 9998 Tryd.underlying3 x y w _ (fun j hj => by have := List.mem_range.1 hj; omega), all_eq hx hy]
  rfl
/-- The document's answer to Accept. -/
def AccIs (s p : ByteArray) (n : Int) : Prop :=
  (¬ blkOK s ∧ n = 10) ∨ (blkOK s ∧ ¬ putsOK p ∧ n = 11) ∨ (blkOK s ∧ putsOK p ∧ (comeS (blkPuts s)).take 8 = (comeS (putL p (p.size / 8))).take 8 ∧ n = 0) ∨ (blkOK s ∧ putsOK p ∧ ¬ (comeS (blkPuts s)).take 8 = (comeS (putL p (p.size / 8))).take 8 ∧ n = 12)
theorem AccIs.one {s p : ByteArray} {n m : Int} (h : AccIs s p n) (k : AccIs s p m) : n = m := by
  unfold AccIs at h k
  rcases h with ⟨h1, h2⟩ | ⟨h1, h2, h3⟩ | ⟨h1, h2, h3, h4⟩ | ⟨h1, h2, h3, h4⟩ <;> rcases k with ⟨k1, k2⟩ | ⟨k1, k2, k3⟩ | ⟨k1, k2, k3, k4⟩ | ⟨k1, k2, k3, k4⟩
  all_goals first | exact absurd h1 k1 | exact absurd k1 h1 | exact absurd h2 k2 | exact absurd k2 h2 | exact absurd h3 k3 | exact absurd k3 h3 | omega
/-- The program's words of a block, against the text's. -/
theorem plN_nPl {s : ByteArray} (h : blkOK s) : plN (blkL s (s.size / 4)) = nPl s := by
  have h4 := h.1
  unfold plN nPl
  rw [blkL_len, blkL_at s (by omega)]
  cases hq : plW (wdAt s (s.size / 4 - 1))
  · rw [if_pos ⟨by omega, rfl⟩, if_neg (by decide)]
  · rw [if_neg (fun h => by cases h.2), if_pos rfl]
theorem blkL_take (s : ByteArray) {k n : Nat} (h : n ≤ k) : (blkL s k).take n = blkL s n := by
  unfold blkL
  rw [← List.map_take, List.take_range, Nat.min_eq_left h]
theorem pwL_blk (s : ByteArray) : pwL (blkL s (nPl s)) = blkPuts s := by
  unfold pwL blkL blkPuts
  rw [List.map_map]
  rfl
theorem tab_new (W : World) : TabAt W.heap.size (W.heap.size + 1) [] W.heap.size (.slice none 0 0) ((W.alloc (.map #[] 0)).alloc (.cells #[.map (some W.heap.size), .slice none 0 0] 140)) := by
  refine ⟨?_, ?_, fun i => ?_, by omega, Nat.le_refl _, (fun g hg => by cases hg), World.ownsRow_nil _ _ _ _, .map [], (World.ownsMap_made W _ _ _).alloc _, fun e _ => ⟨⟨fun h => (by cases h), fun h => (by cases h)⟩, fun n hn => (by simp at hn)⟩⟩
  · rw [World.cell?_alloc_at (hn := by rw [size_alloc1])]; rfl
  · rw [World.cell?_alloc_at (hn := by rw [size_alloc1])]; rfl
  · rw [World.frozen?_alloc_at (hn := by rw [size_alloc1])]
theorem mk137 (w : World) : (Instr.makeMap 137 none).run Tryd.prog w = .ok (.map (some w.heap.size)) (w.alloc (.map #[] 0)) := by kernel_rfl
theorem nI_inj {a b : List Nat} : nI a = nI b ↔ a = b := by
  unfold nI
  constructor
  · intro h
    exact List.map_inj_right (fun x y h => by omega) |>.1 h
  · rintro rfl; rfl
theorem own_take {w : World} {B : Nat} {v : Value} {n m : Nat} {xs : List Value} {e : TypeId} {k : Nat} (h : w.ownsRow B e k v n xs) (hn : n = m) : w.ownsRow B e k v m xs := hn ▸ h

set_option maxRecDepth 100000 in
set_option maxHeartbeats 2000000 in
theorem meanAccept_any (s p : ByteArray) (w : World) (ht : Tab w) (hs : s.size ≤ maxLen) (hp : p.size ≤ maxLen) :
    Calls Tryd.prog 59 #[.string s, .string p] w fun e' w' => Below w.heap.size w w' ∧ ∃ n, e' = .returned (.int .i64 n) ∧ AccIs s p n := by
  have z9 := zero9
  have HRd := hide (blkRead_any s w ht hs)
  have HPt := hide (fun w' => plansPuts_any p w' hp)
  have HTb := hide ht
  have hpos := ht.pos
  clear ht
  go_enter Tryd.func59, Tryd.ntmps59
  go_wp2_with fail
  refine (unhide HRd).mono ?_
  rintro e w1 ⟨hb1, ⟨hok, rfl⟩ | ⟨hno, rfl⟩⟩
  · have HB1 := hide hb1; have HOk := hide hok
    have hz1 := hb1.size
    have h8 : s.size / 4 ≤ 8 := by have := hok.2.1; omega
    have hzl := wdZ_len (ws := blkL s (s.size / 4)) (by rw [blkL_len]; exact h8)
    clear hb1 hok HRd
    go_wp2_with (refine wpList_storeR size9 rfl _ _ rfl w1.heap.size rfl (wdZ (blkL s (s.size / 4))) rfl hzl (by rw [isRowB_alloc_at _ _ _ _ _ rfl]; rfl) _ (setRow_alloc_at _ _ _ _ _ rfl) ?_)
    refine (unhide HPt _).mono ?_
    rintro e w2 ⟨hb2, ⟨hpk, pv, rfl, hpo⟩ | ⟨hpn, rfl⟩⟩
    · have HRw := hide (RowI.keep (w' := w2) (show RowI (w1.alloc (.cells (S (wdZ (blkL s (s.size / 4)))) 127)) w1.heap.size 127 (wdZ (blkL s (s.size / 4))) from _root_.Go.heap_alloc_new w1 _) (hb2.block _ (by rw [size_alloc1]; omega)))
      have HB2 : Hid (Below w.heap.size w w2) := (HB1.out.alloc hz1 _).trans (hb2.mono (by rw [size_alloc1]; omega))
      have hz2 : w1.heap.size < w2.heap.size := HRw.out.lt
      have HPk := hide hpk; have HPo := hide hpo
      have HRl := hide (fun w' => plain_list (blkL s (s.size / 4)) w')
      clear hb2 hpk hpo HPt
      obtain ⟨W3, hW3⟩ : ∃ W3, W3 = ((w2.alloc (.map #[] 0)).alloc (.cells #[.map (some w2.heap.size), .slice none 0 0] 140)) := ⟨_, rfl⟩
      have HW := hide hW3
      have h3b : Below w2.heap.size w2 W3 := by rw [hW3]; exact ((Below.refl _ _).alloc (Nat.le_refl _) _).alloc (by rw [size_alloc1]; omega) _
      have h3z : W3.heap.size = w2.heap.size + 1 + 1 := by rw [hW3, size_alloc1, size_alloc1]
      have H3T : Hid (TabAt w2.heap.size (w2.heap.size + 1) [] w2.heap.size (.slice none 0 0) W3) := by unfold Hid; rw [hW3]; exact tab_new w2
      have H3B := hide h3b
      have r3 := HRw.out.keep (h3b.block _ hz2)
      have rI := r3.isRow 9 hzl
      have rD := r3.rowD
      have HPl := hide (plain_list (blkL s (s.size / 4)) W3 (HTb.out.below hpos (HB2.out.trans (h3b.mono (Nat.le_trans hz1 (Nat.le_of_lt hz2))))) (by rw [blkL_len]; exact h8) (blkL_bd s _))
      have mk := mk137 w2
      clear hW3 h3b r3 HRl
      go_wp2_with (refine wpList_loadR rfl Tryd.underlying127 size9 rfl _ rfl w1.heap.size rfl (by rw [← HW.out]; exact rI) (S (wdZ (blkL s (s.size / 4)))) (by rw [← HW.out]; exact rD) ?_)
      rw [← HW.out]
      refine (unhide HPl).mono ?_
      rintro e w4 ⟨hb4, fv, rfl, hfo⟩
      rw [plN_nPl HOk.out, blkL_take s (nPl_le s)] at hfo
      have HOf := hide (ofWords_any _ fv (blkL s (nPl s)) w4 (own_take hfo (blkL_len s _).symm) (by rw [blkL_len]; exact Nat.le_trans (nPl_le s) h8))
      have HB4 := hide hb4
      have hz4 := hb4.size
      clear hb4 hfo HPl rI rD
      go_wp2_with fail
      refine (unhide HOf).mono ?_
      rintro e w5 ⟨hb5, pv1, rfl, hpo1⟩
      rw [pwL_blk, blkL_len, ← nPl_len] at hpo1
      have hz5 := hb5.size
      have H35 : Hid (Below W3.heap.size W3 w5) := HB4.out.trans (hb5.mono hz4)
      have HCo := hide (comeTo_any w2.heap.size _ (w2.heap.size + 1) [] [] w2.heap.size (.slice none 0 0) pv1 (blkPuts s) w5 (H3T.out.above H35.out) TI.nil hpo1 (blkPuts_ok HOk.out) (by rw [nPl_len]; have := nPl_le s; omega) (by simp) (fun g hg => by have := (row_lt hpo1 g hg).1; omega))
      clear hb5 hpo1 HOf
      go_wp2_with fail
      refine (unhide HCo).mono ?_
      rintro e w6 ⟨T1, ds1, v1, ns1, rfl, c1, c2, c3, c4, c5, c6⟩
      have H25 : Hid (Below w2.heap.size w2 w6) := (H3B.out.trans (H35.out.mono (by omega))).trans c5.below
      have hpo6 : w6.ownsRow (w1.alloc (.cells (S (wdZ (blkL s (s.size / 4)))) 127)).heap.size 59 5 pv (putL p (p.size / 8)).length (putCs (putL p (p.size / 8))) := own_take (own_grow HPo.out H25.out) (putL_len p _).symm
      have HCo2 := hide (comeTo_any w2.heap.size _ (w2.heap.size + 1) T1 ds1 w2.heap.size v1 pv (putL p (p.size / 8)) w6 c1 c2 hpo6 (putL_ok HPk.out) (by rw [putL_len]; have := HPk.out.2.1; omega) (by simp at c6; omega) (fun g hg => by have := (row_lt HPo.out g hg).2; omega))
      have HC4 := hide c4; have HC2 := hide c2
      have hl1 := c4.n16
      clear c1 c2 c3 c4 c5 c6 hpo6 HCo
      go_wp2_with fail
      refine (unhide HCo2).mono ?_
      rintro e w7 ⟨T2, ds2, v2, ns2, rfl, q1, q2, q3, q4, q5, q6⟩
      have HB7 : Hid (Below w.heap.size w w7) := HB2.out.trans ((H25.out.trans q5.below).mono (Nat.le_trans hz1 (Nat.le_of_lt hz2)))
      have HSm : Hid (nI (ns1.take 8) = nI (ns2.take 8) ↔ (comeS (blkPuts s)).take 8 = (comeS (putL p (p.size / 8))).take 8) := by
        unfold Hid
        rw [nI_inj]
        exact Slots.same q2 (HC4.out.more HC2.out.len q3) q4
      have hl2 := q4.n16
      have heq := eq8 (nI (ns1.take 8)) (nI (ns2.take 8)) (by rw [nI_len, List.length_take]; omega) (by rw [nI_len, List.length_take]; omega)
      clear q1 q2 q3 q4 q5 q6 HCo2 HC4
      by_cases hsame : nI (ns1.take 8) = nI (ns2.take 8)
      · rw [decide_eq_true hsame] at heq
        have HY := hide (HSm.out.1 hsame)
        clear hsame HSm
        go_wp2_with fail
        go_ret
        exact ⟨HB7.out, _, rfl, .inr (.inr (.inl ⟨HOk.out, HPk.out, HY.out, rfl⟩))⟩
      · rw [decide_eq_false hsame] at heq
        have HY : Hid (¬ (comeS (blkPuts s)).take 8 = (comeS (putL p (p.size / 8))).take 8) := fun h => hsame (HSm.out.2 h)
        clear hsame HSm
        go_wp2_with fail
        go_ret
        exact ⟨HB7.out, _, rfl, .inr (.inr (.inr ⟨HOk.out, HPk.out, HY.out, rfl⟩))⟩
    · have HB2 : Hid (Below w.heap.size w w2) := (HB1.out.alloc hz1 _).trans (hb2.mono (by rw [size_alloc1]; omega))
      have HN := hide hpn
      clear hb2 hpn
      go_wp2_with fail
      go_ret
      exact ⟨HB2.out, _, rfl, .inr (.inl ⟨HOk.out, HN.out, rfl⟩)⟩
  · have HB1 := hide hb1; have HNo := hide hno
    have hz1 := hb1.size
    clear hb1 hno HRd
    go_wp2_with (refine wpList_storeR size9 rfl _ _ rfl w1.heap.size rfl (wdZ []) rfl rfl (by rw [isRowB_alloc_at _ _ _ _ _ rfl]; rfl) _ (setRow_alloc_at _ _ _ _ _ rfl) ?_)
    go_ret
    exact ⟨HB1.out.alloc hz1 _, _, rfl, .inl ⟨HNo.out, rfl⟩⟩

set_option maxRecDepth 100000 in
set_option maxHeartbeats 400000 in
theorem cribAccept_any (s p : ByteArray) (w : World) (ht : Tab w) (hs : s.size ≤ maxLen) (hp : p.size ≤ maxLen) :
    Calls Tryd.prog 27 #[.string s, .string p] w fun e' w' => Below w.heap.size w w' ∧ ∃ n, e' = .returned (.int .i64 n) ∧ AccIs s p n := by
  have HP := hide (meanAccept_any s p w ht hs hp)
  clear ht
  go_enter Tryd.func27, Tryd.ntmps27
  go_wp2_with fail
  refine (unhide HP).mono ?_
  rintro e w1 ⟨hb, n, rfl, hn⟩
  have HB := hide hb; have HN := hide hn
  clear hb hn
  go_wp2_with fail
  go_ret
  exact ⟨HB.out, n, rfl, HN.out⟩
end Go.Proofs.YtmmflekajbeamaaDoor

namespace Go.Proofs.YtmmflekajbeamaaDoor
open Go.RowKit

theorem cribStep_any (z : List Int) (w : World) (hl : z.length = 138) (ht : Tab w) :
    Calls Tryd.prog 45 #[.agg (S z)] w fun e' w' => e' = .returned (.tuple #[.agg (S (stp z).1), .int .i64 (stp z).2]) ∧ Below w.heap.size w w' :=
  cstep_any z (stp z).1 (stp z).2 w hl (stp_len z hl) (fun w' hb => mstep_any z w' hl (ht.below ht.pos hb))
theorem results_cell_tmp2 {fn : Func} {p u v : Tmp} {ty : TypeId} (h : fn.results = #[.cell p ty, .tmp u, .tmp v]) (tmps : Array Value) (P : Program) (w : World) :
    (results fn tmps).run P w =
      ((asAddr (tmps.getD p undef)).run P w).andThen fun a w₁ => ((loadVar ty a).run P w₁).andThen fun x w₂ => .ok (.tuple #[x, tmps.getD u undef, tmps.getD v undef]) w₂ := by
  simp only [results, h]
  simp [Sem.run_bind, Result.andThen]
theorem res_S3 {fn : Func} {p u v : Tmp} (h : fn.results = #[.cell p 34, .tmp u, .tmp v]) (tmps : Array Value) (w : World) (g : Nat) (t : TypeId) (z : List Int) (hz : z.length = 138)
    (hp : tmps.getD p undef = .pointer (some ⟨g, 0, none⟩)) (hg : w.heap[g]? = some (.cells (S z) t (0, 0))) (x y : Value) (hu : tmps.getD u undef = x) (hv : tmps.getD v undef = y) :
    (results fn tmps).run Tryd.prog w = .ok (.tuple #[.agg (S z), x, y]) w := by
  rw [results_cell_tmp2 h, hp, hu, hv]
  simp only [asAddr, Sem.run_pure, Result.andThen]
  rw [run_loadVar_row w g t 34 (S z) (0, 0) _ hg Tryd.underlying34 rfl (by rw [size34, S_size, hz])]

set_option maxRecDepth 100000 in
set_option maxHeartbeats 4000000 in
theorem stepped_any (regs mem : List Int) (pc : Nat) (w : World) (ht : Tab w) (hr : WL 8 regs) (hm : WL 128 mem) (hp : pc < 128) :
    Calls Tryd.prog 61 #[.agg (S (stZ regs mem pc 0)), .int .i64 (nPl (bya (blkTxt mem pc)) : Nat)] w fun e' w' => e' = .returned (.tuple #[.agg (S (stZ regs mem pc (nPl (bya (blkTxt mem pc))))), .int .i64 (nPl (bya (blkTxt mem pc)) : Nat), .bool true]) ∧ Below w.heap.size w w' := by
  have zz := zero34
  have h8 : nPl (bya (blkTxt mem pc)) ≤ 8 := by have := nPl_le (bya (blkTxt mem pc)); have := blk_size mem pc; have := blkN_le mem 8 pc; omega
  have HSt := hide (fun k (hk : k < nPl (bya (blkTxt mem pc))) => stZ_step hr hm hp hk)
  have HLn := hide (fun k => stZ_len hr hm hp k)
  have HS0 : Hid (∀ k, gz (stZ regs mem pc k) 137 = 0) := fun k => mkZ_st (pc := ((pc + k : Nat) : Int) % 128) (st := 0) (stZ_WL hr hm hp k).1 hm.1
  have HT := hide (fun w' (hb : Below w.heap.size w w') => ht.below ht.pos hb)
  generalize nPl (bya (blkTxt mem pc)) = n at *
  have HR0 : Hid (RowI (W2 (stZ regs mem pc 0) w) w.heap.size 34 (stZ regs mem pc 0) ∧ isRowB (W2 (stZ regs mem pc 0) w) (w.heap.size + 1) 138 = true ∧ Below w.heap.size w (W2 (stZ regs mem pc 0) w)) := by
    refine ⟨?_, W2_row1 _ w, W2_below _ w⟩
    unfold RowI W2
    rw [Below.heap_alloc _ _ _ (by rw [size_alloc1]; omega), _root_.Go.heap_alloc_new]
  generalize stZ regs mem pc = Z at *
  clear hr hm ht
  go_enter Tryd.func61, Tryd.ntmps61
  go_wp2_with fail
  go_loopw [7] (fun i wr => ∃ k : Nat, k ≤ n ∧ i = .int .i64 k ∧ Hid (RowI wr w.heap.size 34 (Z k) ∧ isRowB wr (w.heap.size + 1) 138 = true ∧ Below w.heap.size w wr)) (fun i _ => n - (intOf i).toNat)
  case atStart => exact ⟨0, Nat.zero_le _, rfl, HR0.out⟩
  case round =>
    obtain ⟨k, hk, rfl, HR⟩ := hrel
    have rI := HR.out.1.isRow 138 (HLn.out k)
    have rD := HR.out.1.rowD
    have hwz := HR.out.1.lt
    by_cases hlt : k < n
    · have hlt' : (k : Int) < (n : Int) := by omega
      have c7 := HR.out.1.cell 137 (by rw [HLn.out]; omega)
      rw [HS0.out] at c7
      have HC := hide (cribStep_any (Z k) wr (HLn.out k) (HT.out _ HR.out.2.2))
      rw [HSt.out k hlt] at HC
      simp only at HC
      go_wp2_with (refine wpList_load_S rfl _ rfl w.heap.size rfl rI _ rD ?_)
      refine (unhide HC).mono ?_
      rintro e w1 ⟨rfl, hb1⟩
      have hl1 := HLn.out (k + 1)
      have hz1 := hb1.size
      obtain ⟨W3, hW3⟩ : ∃ W3, W3 = w1.alloc (.cells (S (Z (k + 1))) 34) := ⟨_, rfl⟩
      have HW := hide hW3
      have r3 : RowI W3 w1.heap.size 34 (Z (k + 1)) := by unfold RowI; rw [hW3, _root_.Go.heap_alloc_new]
      have r0 : RowI W3 w.heap.size 34 (Z k) := by rw [hW3]; exact (HR.out.1.keep (hb1.block _ hwz)).keep (Below.heap_alloc w1 _ _ (by omega))
      have b3 : Below w.heap.size w W3 := by rw [hW3]; exact (HR.out.2.2.trans (hb1.mono (by omega))).alloc (by omega) _
      have i3 : isRowB W3 (w.heap.size + 1) 138 = true := by
        have hlt1 : w.heap.size + 1 < wr.heap.size := by
          obtain ⟨t', hg', _⟩ := row_of HR.out.2.1
          exact (Array.getElem?_eq_some_iff.1 hg').1
        rw [hW3, isRowB_heap (Below.heap_alloc w1 _ _ (by omega)), isRowB_heap (hb1.block _ hlt1)]
        exact HR.out.2.1
      have rI3 := r3.isRow 138 hl1
      have rD3 := r3.rowD
      have rI0 := r0.isRow 138 (HLn.out k)
      have HN : Hid (RowI (W3.setRow w.heap.size (S (Z (k + 1)))) w.heap.size 34 (Z (k + 1)) ∧ isRowB (W3.setRow w.heap.size (S (Z (k + 1)))) (w.heap.size + 1) 138 = true ∧ Below w.heap.size w (W3.setRow w.heap.size (S (Z (k + 1))))) := by
        refine ⟨setRow_heap W3 _ _ _ _ (0, 0) r0, ?_, below_setRow b3 (Nat.le_refl _) _⟩
        rw [isRowB_heap (setRow_other W3 _ _ _ (by omega))]
        exact i3
      clear hb1 hW3 r3 r0 b3 i3 rI rD c7 HC
      go_wp2_with (first | (refine wpList_store_S rfl _ _ rfl w1.heap.size rfl (Z (k + 1)) rfl hl1 (by rw [isRowB_alloc_at _ _ _ _ _ rfl]; simp [S_size, zeroZ]) _ (setRow_alloc_at _ _ _ _ _ rfl) ?_) | (refine wpList_load_S rfl _ rfl w1.heap.size rfl (by rw [← HW.out]; exact rI3) (S (Z (k + 1))) (by rw [← HW.out]; exact rD3) ?_) | (refine wpList_store_S rfl _ _ rfl w.heap.size rfl (Z (k + 1)) rfl hl1 (by rw [← HW.out]; exact rI0) (W3.setRow w.heap.size (S (Z (k + 1)))) (by rw [← HW.out]) ?_))
      exact ⟨⟨k + 1, by omega, by go_num, HN.out⟩, by simp [intOf]; omega⟩
    · have hlt' : ¬ (k : Int) < (n : Int) := by omega
      have hke : k = n := by omega
      subst hke
      obtain ⟨t, hg⟩ := heap_setRow_S HR.out.2.1 (S (Z k))
      have HGf := hide hg
      have HBf := hide (below_setRow HR.out.2.2 (by omega : w.heap.size ≤ w.heap.size + 1) (S (Z k)))
      have i1 := HR.out.2.1
      have hlk := HLn.out k
      clear hg
      go_wp2_with (first | (refine wpList_load_S rfl _ rfl w.heap.size rfl rI _ rD ?_) | (refine wpList_store_S rfl _ _ rfl (w.heap.size + 1) rfl (Z k) rfl hlk i1 _ rfl ?_))
      exact bodyPost_ret (v := .tuple #[.agg (S (Z k)), .int .i64 (k : Int), .bool true]) (res_S3 Tryd.results61 _ _ (w.heap.size + 1) t (Z k) hlk rfl HGf.out _ _ rfl rfl) rfl ⟨rfl, HBf.out⟩
end Go.Proofs.YtmmflekajbeamaaDoor

namespace Go.Proofs.YtmmflekajbeamaaDoor
open Go.RowKit

def txCs (l : List (List UInt8)) : List Value := l.map fun x => .string (bya x)
theorem txCs_len (l : List (List UInt8)) : (txCs l).length = l.length := by simp [txCs]
theorem txCs_get (l : List (List UInt8)) (i : Nat) (h : i < l.length) : (txCs l)[i]? = some (.string (bya (l.getD i []))) := by
  unfold txCs
  rw [List.getElem?_map, List.getD_eq_getElem?_getD, List.getElem?_eq_getElem h]
  rfl
theorem txCs_set (l : List (List UInt8)) (i : Nat) (x : List UInt8) : (txCs l).set i (.string (bya x)) = txCs (l.set i x) := by
  unfold txCs
  rw [List.map_set]
theorem begS_len : begS.length = 16 := by simp [begS]
theorem begS_at {k : Nat} (h : k < 16) : begS[k]? = some (if k < 8 then sReg k else sCon 0) := by
  unfold begS
  rw [List.getElem?_map, List.getElem?_range h]; rfl
theorem txCs_snoc (l : List (List UInt8)) (x : List UInt8) : txCs (l ++ [x]) = txCs l ++ [.string (bya x)] := by simp [txCs]

set_option maxRecDepth 100000 in
set_option maxHeartbeats 2000000 in
theorem begin_ref (w : World) :
    Calls Tryd.prog 127 #[] w fun e' w' => Below w.heap.size w w' ∧ ∃ v, e' = .returned v ∧ w'.ownsRow w.heap.size 9 1 v 16 (txCs begS) := by
  obtain ⟨inf, hinf, hz, hsz1, hby⟩ := infoStr
  have HInf := hide hinf; have HZ := hide hz; have HSz := hide hsz1; have HBy := hide hby
  clear hinf hz hsz1 hby
  have HN0 : Hid (∀ w', Calls Tryd.prog 94 #[.int .i64 0, .int .i64 4] w' fun e' w'' => e' = .returned (.string (bya (numB 4 0))) ∧ Below w'.heap.size w' w'') := fun w' => number_ref 0 4 w' (by decide) (by decide)
  have HC0 : Hid ((⟨#[35]⟩ : ByteArray) ++ bya (numB 4 0) = bya (sCon 0)) := by unfold Hid; rw [show (⟨#[35]⟩ : ByteArray) = bya [35] from rfl, bya_app]; rfl
  have z0 : (bya (numB 4 0)).size ≤ 4 := by rw [bya_size, numB_len]; decide
  generalize bya (numB 4 0) = D0 at *
  go_enter Tryd.func127, Tryd.ntmps127
  go_wp2_with fail
  go_loopw [1, 2] (fun v i wr => ∃ k : Nat, k ≤ 16 ∧ i = .int .i64 k ∧ wr.ownsRow w.heap.size 9 1 v k (txCs (begS.take k)) ∧ Below w.heap.size w wr) (fun _ i _ => 16 - (intOf i).toNat)
  case atStart => exact ⟨0, Nat.zero_le _, rfl, World.ownsRow_nil _ _ _ _, Below.refl _ _⟩
  case round =>
    obtain ⟨k, hk, rfl, hown, hbl⟩ := hrel
    obtain ⟨va, vc, hv⟩ := owns_len hown
    subst hv
    have HO := hide hown; have HBl := hide hbl
    have hwz := hbl.size
    clear hown hbl
    by_cases hlt : k < 16
    · have hlt' : (k : Int) < 16 := by omega
      have hat := begS_at hlt
      by_cases h8 : k < 8
      · have h8' : (k : Int) < 8 := by omega
        rw [if_pos h8] at hat
        have HN := hide (fun w' => number_ref k 1 w' (by decide) (by omega))
        have HC : Hid ((⟨#[114]⟩ : ByteArray) ++ bya (numB 1 k) = bya (sReg k)) := by unfold Hid; rw [show (⟨#[114]⟩ : ByteArray) = bya [114] from rfl, bya_app]; rfl
        have HS : Hid (txCs (begS.take (k + 1)) = txCs (begS.take k) ++ [.string (bya (sReg k))]) := by unfold Hid; rw [List.take_add_one, hat, ← txCs_snoc]; rfl
        have z1 : (bya (numB 1 k)).size ≤ 4 := by rw [bya_size, numB_len]; decide
        generalize bya (numB 1 k) = D1 at *
        clear hat
        go_wp2_with fail
        refine (unhide HN0 _).mono ?_
        rintro e w1 ⟨rfl, hb1⟩
        have HB1 := hide (HBl.out.trans (hb1.mono hwz))
        have HO1 := hide (own_grow HO.out hb1)
        have hz1 := Nat.le_trans hwz hb1.size
        clear hb1
        go_wp2_with fail
        refine (unhide HN _).mono ?_
        rintro e w2 ⟨rfl, hb2⟩
        have HB2 := hide (HB1.out.trans (hb2.mono hz1))
        have HO2 := hide (own_grow HO1.out hb2)
        have hz2 := Nat.le_trans hz1 hb2.size
        clear hb2
        go_wp2_with (at_builtin; refine wpList_append_lies _ rfl _ _ 120 rfl w.heap.size 9 inf _ 1 16 Tryd.underlying120 HInf.out HZ.out HSz.out HBy.out rfl (by decide) (.slice va k vc) k (txCs (begS.take k)) rfl (HO2.out.alloc _) ⟨w2.heap.size, 0, none⟩ 1 1 [.string ((⟨#[114]⟩ : ByteArray) ++ D1)] rfl rfl (World.news_of_block (_root_.Go.heap_alloc_new w2 _)) (fun u hu => by simp at hu; subst hu; rfl) (by decide) (by unfold maxLen; omega) (by omega) (by rw [size_alloc1]; omega) (w2.heap.size + 1) (by rw [size_alloc1]) ?_; intro g2' cap2 w3 hown2 hgr2 hat2 hlt2; have HO3 := hide hown2; have HGr := hide hgr2; clear hown2 hgr2 hat2)
        refine ⟨⟨k + 1, by omega, by go_num, ?_, ?_⟩, by simp [intOf]; omega⟩
        · rw [HS.out, ← HC.out]
          exact HO3.out
        · exact (HB2.out.alloc hz2 _).grown HGr.out (by rw [size_alloc1]; omega) (fun q hq => (row_lt HO2.out q hq).1)
      · have h8' : ¬ (k : Int) < 8 := by omega
        rw [if_neg h8] at hat
        have HS : Hid (txCs (begS.take (k + 1)) = txCs (begS.take k) ++ [.string (bya (sCon 0))]) := by unfold Hid; rw [List.take_add_one, hat, ← txCs_snoc]; rfl
        clear hat
        go_wp2_with fail
        refine (unhide HN0 _).mono ?_
        rintro e w1 ⟨rfl, hb1⟩
        have HB1 := hide (HBl.out.trans (hb1.mono hwz))
        have HO1 := hide (own_grow HO.out hb1)
        have hz1 := Nat.le_trans hwz hb1.size
        clear hb1
        go_wp2_with (at_builtin; refine wpList_append_lies _ rfl _ _ 120 rfl w.heap.size 9 inf _ 1 16 Tryd.underlying120 HInf.out HZ.out HSz.out HBy.out rfl (by decide) (.slice va k vc) k (txCs (begS.take k)) rfl (HO1.out.alloc _) ⟨w1.heap.size, 0, none⟩ 1 1 [.string ((⟨#[35]⟩ : ByteArray) ++ D0)] rfl rfl (World.news_of_block (_root_.Go.heap_alloc_new w1 _)) (fun u hu => by simp at hu; subst hu; rfl) (by decide) (by unfold maxLen; omega) (by omega) (by rw [size_alloc1]; omega) (w1.heap.size + 1) (by rw [size_alloc1]) ?_; intro g2' cap2 w3 hown2 hgr2 hat2 hlt2; have HO3 := hide hown2; have HGr := hide hgr2; clear hown2 hgr2 hat2)
        refine ⟨⟨k + 1, by omega, by go_num, ?_, ?_⟩, by simp [intOf]; omega⟩
        · rw [HS.out, ← HC0.out]
          exact HO3.out
        · exact (HB1.out.alloc hz1 _).grown HGr.out (by rw [size_alloc1]; omega) (fun q hq => (row_lt HO1.out q hq).1)
    · have hkn : k = 16 := by omega
      have e16 : (k : Int) = 16 := by omega
      have HO' : Hid (wr.ownsRow w.heap.size 9 1 (.slice va k vc) 16 (txCs begS)) := by
        have := HO.out
        rw [List.take_of_length_le (by rw [begS_len]; omega)] at this
        rw [hkn] at this ⊢
        exact this
      clear HO
      have hlt' : ¬ (k : Int) < 16 := by omega
      clear hkn e16
      go_wp2_with fail
      go_ret
      exact ⟨HBl.out, _, rfl, HO'.out⟩

set_option maxRecDepth 100000 in
set_option maxHeartbeats 1000000 in
theorem isBlock_yes (s : ByteArray) (w : World) (h : blkOK s) :
    Calls Tryd.prog 88 #[.string s] w fun e' w' => e' = .returned (.bool true) ∧ w' = w := by
  obtain ⟨h4, h32, hm, hp⟩ := h
  have HP := hide hp
  have h4' : ¬ (s.size : Int) < 4 := by omega
  have h4d : decide ((s.size : Int) < 4) = false := by simpa using h4'
  have h32d : decide ((32 : Int) < (s.size : Int)) = false := by simp; omega
  have hm' : (s.size : Int) % 4 = 0 := by omega
  clear hp
  go_enter Tryd.func88, Tryd.ntmps88
  go_wp2_with fail
  go_loop [3] (fun i => ∃ k j : Nat, 4 * k + 4 ≤ s.size ∧ j = 4 * k ∧ i = .int .i64 j) (fun i => s.size - (intOf i).toNat)
  case atStart => exact ⟨0, 0, by omega, rfl, rfl⟩
  case round =>
    obtain ⟨k, j, hk, hj, rfl⟩ := hrel
    by_cases hlt : j < s.size - 4
    · have hlt' : (j : Int) < (s.size : Int) - 4 := by omega
      have hwl := wdAt_lt s k
      have hv : ∀ w', Calls Tryd.prog 86 #[.string s, .int .i64 (j : Int), .int .i64 4] w' fun e' w'' => e' = .returned (.int .i64 (wdAt s k : Nat)) ∧ w'' = w' := fun w' => by
        have := value_any s j 4 w' (by decide) (by omega) (by omega)
        unfold wdAt
        rw [← hj]
        exact this
      have HV := hide hv
      have hpl := fun w' => plain_any (wdAt s k : Nat) w' (by omega) (by omega)
      have hpk : plB (fop (wdAt s k : Nat)) (fa (wdAt s k : Nat)) (fb (wdAt s k : Nat)) (fc (wdAt s k : Nat)) = true := HP.out k (by omega)
      rw [hpk] at hpl
      have HPl := hide hpl
      clear hv hpl hpk
      generalize wdAt s k = v at *
      have HJ := hide hj
      clear hj
      go_wp2_with fail
      refine (unhide HV _).mono ?_
      rintro e w' ⟨rfl, hw⟩
      obtain rfl := hw.symm
      go_wp2_with fail
      refine (unhide HPl _).mono ?_
      rintro e w' ⟨rfl, hw⟩
      obtain rfl := hw.symm
      go_wp2_with fail
      exact ⟨⟨k + 1, j + 4, by have := HJ.out; omega, by have := HJ.out; omega, by go_num⟩, by simp [intOf]; omega⟩
    · have hlt' : ¬ (j : Int) < (s.size : Int) - 4 := by omega
      clear hj
      go_wp2_with fail
      go_ret
      exact ⟨rfl, rfl⟩

set_option maxRecDepth 100000 in
set_option maxHeartbeats 1000000 in
theorem isBlock_no (s : ByteArray) (w : World) (h : ¬ blkOK s) (hs : s.size ≤ maxLen) :
    Calls Tryd.prog 88 #[.string s] w fun e' w' => e' = .returned (.bool false) ∧ w' = w := by
  unfold maxLen at hs
  by_cases h4 : s.size < 4
  · have h4' : (s.size : Int) < 4 := by omega
    go_enter Tryd.func88, Tryd.ntmps88
    go_wp2_with fail
    go_ret
    exact ⟨rfl, rfl⟩
  · have h4d : decide ((s.size : Int) < 4) = false := by simp; omega
    by_cases h32 : 32 < s.size
    · have h32' : (32 : Int) < (s.size : Int) := by omega
      go_enter Tryd.func88, Tryd.ntmps88
      go_wp2_with fail
      go_ret
      exact ⟨rfl, rfl⟩
    · have h32d : decide ((32 : Int) < (s.size : Int)) = false := by simp; omega
      by_cases hm : s.size % 4 = 0
      · have hm' : (s.size : Int) % 4 = 0 := by omega
        have HN : Hid (¬ ∀ j, j + 1 < s.size / 4 → plW (wdAt s j) = true) := fun hp => h ⟨by omega, by omega, hm, hp⟩
        go_enter Tryd.func88, Tryd.ntmps88
        go_wp2_with fail
        clear hm'
        go_loop [3] (fun i => ∃ k j : Nat, 4 * k + 4 ≤ s.size ∧ j = 4 * k ∧ i = .int .i64 j ∧ Hid (∀ q, q < k → plW (wdAt s q) = true)) (fun i => s.size - (intOf i).toNat)
        case atStart => exact ⟨0, 0, by omega, rfl, rfl, fun q hq => by omega⟩
        case round =>
          obtain ⟨k, j, hk, hj, rfl, HG⟩ := hrel
          by_cases hlt : j < s.size - 4
          · have hlt' : (j : Int) < (s.size : Int) - 4 := by omega
            have hwl := wdAt_lt s k
            have hv : ∀ w', Calls Tryd.prog 86 #[.string s, .int .i64 (j : Int), .int .i64 4] w' fun e' w'' => e' = .returned (.int .i64 (wdAt s k : Nat)) ∧ w'' = w' := fun w' => by
              have := value_any s j 4 w' (by decide) (by omega) (by omega)
              unfold wdAt
              rw [← hj]
              exact this
            have HV := hide hv
            have hpl := fun w' => plain_any (wdAt s k : Nat) w' (by omega) (by omega)
            cases hpk : plW (wdAt s k : Nat)
            · have hpk' : plB (fop (wdAt s k : Nat)) (fa (wdAt s k : Nat)) (fb (wdAt s k : Nat)) (fc (wdAt s k : Nat)) = false := hpk
              rw [hpk'] at hpl
              have HPl := hide hpl
              clear hv hpl hpk hpk' HG HN
              generalize wdAt s k = v at *
              clear hj
              go_wp2_with fail
              refine (unhide HV _).mono ?_
              rintro e w' ⟨rfl, hw⟩
              obtain rfl := hw.symm
              go_wp2_with fail
              refine (unhide HPl _).mono ?_
              rintro e w' ⟨rfl, hw⟩
              obtain rfl := hw.symm
              go_wp2_with fail
              go_ret
              exact ⟨rfl, rfl⟩
            · have HG' : Hid (∀ q, q < k + 1 → plW (wdAt s q) = true) := fun q hq => by
                by_cases hqk : q = k
                · rw [hqk]; exact hpk
                · exact HG.out q (by omega)
              have hpk' : plB (fop (wdAt s k : Nat)) (fa (wdAt s k : Nat)) (fb (wdAt s k : Nat)) (fc (wdAt s k : Nat)) = true := hpk
              rw [hpk'] at hpl
              have HPl := hide hpl
              clear hv hpl hpk hpk' HG
              generalize wdAt s k = v at *
              have HJ := hide hj
              clear hj
              go_wp2_with fail
              refine (unhide HV _).mono ?_
              rintro e w' ⟨rfl, hw⟩
              obtain rfl := hw.symm
              go_wp2_with fail
              refine (unhide HPl _).mono ?_
              rintro e w' ⟨rfl, hw⟩
              obtain rfl := hw.symm
              go_wp2_with fail
              exact ⟨⟨k + 1, j + 4, by have := HJ.out; omega, by have := HJ.out; omega, by go_num, HG'⟩, by simp [intOf]; omega⟩
          · exact absurd (fun q hq => HG.out q (by omega)) HN.out
      · have hm' : ((s.size : Int) % 4 == 0) = false := by simp; omega
        go_enter Tryd.func88, Tryd.ntmps88
        go_wp2_with fail
        go_ret
        exact ⟨rfl, rfl⟩
end Go.Proofs.YtmmflekajbeamaaDoor
