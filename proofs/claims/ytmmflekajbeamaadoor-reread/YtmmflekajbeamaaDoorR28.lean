/-
  Sound: the steps over a block's plain words (stepped).
  Sound: a plan that comes to the same does what the block's plain words do (does).
  Translates: the block at a place of the memory, the document's answer (cribref.BlockAt, Block).
  Translates: Block through the door, and the law of it (crib.Block, criblaw.blocks).
  Sound: the document's own block (known).
-/
import Derived.Test.YtmmflekajbeamaaDoorR26
import Derived.Test.YtmmflekajbeamaaDoorR27
import Derived.Test.YtmmflekajbeamaaDoorR20
import Derived.Test.YtmmflekajbeamaaDoorR22
import Derived.Deep.MidRow
import Derived.Test.YtmmflekajbeamaaDoorR17
namespace Go.Proofs.YtmmflekajbeamaaDoor
open Go.RowKit

theorem cribStep_any (z : List Int) (w : World) (hl : z.length = 138) (ht : Tab w) :
    Calls Tryd.prog 45 #[.agg (S z)] w fun e' w' => e' = .returned (.tuple #[.agg (S (stp z).1), .int .i64 (stp z).2]) ∧ Below w.heap.size w w' :=
  cstep_any z (stp z).1 (stp z).2 w hl (stp_len z hl) (fun w' hb => mstep_any z w' hl (ht.below ht.pos hb))
theorem results_cell_tmp2 {fn : Func} {p u v : Tmp} {ty : TypeId} (h : fn.results = #[.cell p ty, .tmp u, .tmp v]) (tmps : Array Value) (P : Program) (w : World) :
    (results fn tmps).run P w =
      ((asAddr (tmps.getD p undef)).run P w).andThen fun a w₁ => ((loadVar ty a).run P w₁).andThen fun x w₂ => .ok (.tuple #[x, tmps.getD u undef, tmps.getD v undef]) w₂ := by
  simp only [results, h]
  simp [Sem.run_bind, Result.andThen]
theorem res_S3 {fn : Func} {p u v : Tmp} (h : fn.results = #[.cell p 34, .tmp u, .tmp v]) (tmps : Array Value) (w : World) (g : Nat) (t : TypeId) (z : List Int) (hz : z.length = 138)
    (hp : tmps.getD p undef = .pointer (some ⟨g, 0, none⟩)) (hg : w.heap[g]? = some (.cells (S z) t (0, 0))) (x y : Value) (hu : tmps.getD u undef = x) (hv : tmps.getD v undef = y) :
    (results fn tmps).run Tryd.prog w = .ok (.tuple #[.agg (S z), x, y]) w := by
  rw [results_cell_tmp2 h, hp, hu, hv]
  simp only [asAddr, Sem.run_pure, Result.andThen]
  rw [run_loadVar_row w g t 34 (S z) (0, 0) _ hg Tryd.underlying34 rfl (by rw [size34, S_size, hz])]

set_option maxRecDepth 100000 in
set_option maxHeartbeats 4000000 in
theorem stepped_any (regs mem : List Int) (pc : Nat) (w : World) (ht : Tab w) (hr : WL 8 regs) (hm : WL 128 mem) (hp : pc < 128) :
    Calls Tryd.prog 61 #[.agg (S (stZ regs mem pc 0)), .int .i64 (nPl (bya (blkTxt mem pc)) : Nat)] w fun e' w' => e' = .returned (.tuple #[.agg (S (stZ regs mem pc (nPl (bya (blkTxt mem pc))))), .int .i64 (nPl (bya (blkTxt mem pc)) : Nat), .bool true]) ∧ Below w.heap.size w w' := by
  have zz := zero34
  have h8 : nPl (bya (blkTxt mem pc)) ≤ 8 := by have := nPl_le (bya (blkTxt mem pc)); have := blk_size mem pc; have := blkN_le mem 8 pc; omega
  have HSt := hide (fun k (hk : k < nPl (bya (blkTxt mem pc))) => stZ_step hr hm hp hk)
  have HLn := hide (fun k => stZ_len hr hm hp k)
  have HS0 : Hid (∀ k, gz (stZ regs mem pc k) 137 = 0) := fun k => mkZ_st (pc := ((pc + k : Nat) : Int) % 128) (st := 0) (stZ_WL hr hm hp k).1 hm.1
  have HT := hide (fun w' (hb : Below w.heap.size w w') => ht.below ht.pos hb)
  generalize nPl (bya (blkTxt mem pc)) = n at *
  have HR0 : Hid (RowI (W2 (stZ regs mem pc 0) w) w.heap.size 34 (stZ regs mem pc 0) ∧ isRowB (W2 (stZ regs mem pc 0) w) (w.heap.size + 1) 138 = true ∧ Below w.heap.size w (W2 (stZ regs mem pc 0) w)) := by
    refine ⟨?_, W2_row1 _ w, W2_below _ w⟩
    unfold RowI W2
    rw [Below.heap_alloc _ _ _ (by rw [size_alloc1]; omega), _root_.Go.heap_alloc_new]
  generalize stZ regs mem pc = Z at *
  clear hr hm ht
  go_enter Tryd.func61, Tryd.ntmps61
  go_wp2_with fail
  go_loopw [7] (fun i wr => ∃ k : Nat, k ≤ n ∧ i = .int .i64 k ∧ Hid (RowI wr w.heap.size 34 (Z k) ∧ isRowB wr (w.heap.size + 1) 138 = true ∧ Below w.heap.size w wr)) (fun i _ => n - (intOf i).toNat)
  case atStart => exact ⟨0, Nat.zero_le _, rfl, HR0.out⟩
  case round =>
    obtain ⟨k, hk, rfl, HR⟩ := hrel
    have rI := HR.out.1.isRow 138 (HLn.out k)
    have rD := HR.out.1.rowD
    have hwz := HR.out.1.lt
    by_cases hlt : k < n
    · have hlt' : (k : Int) < (n : Int) := by omega
      have c7 := HR.out.1.cell 137 (by rw [HLn.out]; omega)
      rw [HS0.out] at c7
      have HC := hide (cribStep_any (Z k) wr (HLn.out k) (HT.out _ HR.out.2.2))
      rw [HSt.out k hlt] at HC
      simp only at HC
      go_wp2_with (refine wpList_load_S rfl _ rfl w.heap.size rfl rI _ rD ?_)
      refine (unhide HC).mono ?_
      rintro e w1 ⟨rfl, hb1⟩
      have hl1 := HLn.out (k + 1)
      have hz1 := hb1.size
      obtain ⟨W3, hW3⟩ : ∃ W3, W3 = w1.alloc (.cells (S (Z (k + 1))) 34) := ⟨_, rfl⟩
      have HW := hide hW3
      have r3 : RowI W3 w1.heap.size 34 (Z (k + 1)) := by unfold RowI; rw [hW3, _root_.Go.heap_alloc_new]
      have r0 : RowI W3 w.heap.size 34 (Z k) := by rw [hW3]; exact (HR.out.1.keep (hb1.block _ hwz)).keep (Below.heap_alloc w1 _ _ (by omega))
      have b3 : Below w.heap.size w W3 := by rw [hW3]; exact (HR.out.2.2.trans (hb1.mono (by omega))).alloc (by omega) _
      have i3 : isRowB W3 (w.heap.size + 1) 138 = true := by
        have hlt1 : w.heap.size + 1 < wr.heap.size := by
          obtain ⟨t', hg', _⟩ := row_of HR.out.2.1
          exact (Array.getElem?_eq_some_iff.1 hg').1
        rw [hW3, isRowB_heap (Below.heap_alloc w1 _ _ (by omega)), isRowB_heap (hb1.block _ hlt1)]
        exact HR.out.2.1
      have rI3 := r3.isRow 138 hl1
      have rD3 := r3.rowD
      have rI0 := r0.isRow 138 (HLn.out k)
      have HN : Hid (RowI (W3.setRow w.heap.size (S (Z (k + 1)))) w.heap.size 34 (Z (k + 1)) ∧ isRowB (W3.setRow w.heap.size (S (Z (k + 1)))) (w.heap.size + 1) 138 = true ∧ Below w.heap.size w (W3.setRow w.heap.size (S (Z (k + 1))))) := by
        refine ⟨setRow_heap W3 _ _ _ _ (0, 0) r0, ?_, below_setRow b3 (Nat.le_refl _) _⟩
        rw [isRowB_heap (setRow_other W3 _ _ _ (by omega))]
        exact i3
      clear hb1 hW3 r3 r0 b3 i3 rI rD c7 HC
      go_wp2_with (first | (refine wpList_store_S rfl _ _ rfl w1.heap.size rfl (Z (k + 1)) rfl hl1 (by rw [isRowB_alloc_at _ _ _ _ _ rfl]; simp [S_size, zeroZ]) _ (setRow_alloc_at _ _ _ _ _ rfl) ?_) | (refine wpList_load_S rfl _ rfl w1.heap.size rfl (by rw [← HW.out]; exact rI3) (S (Z (k + 1))) (by rw [← HW.out]; exact rD3) ?_) | (refine wpList_store_S rfl _ _ rfl w.heap.size rfl (Z (k + 1)) rfl hl1 (by rw [← HW.out]; exact rI0) (W3.setRow w.heap.size (S (Z (k + 1)))) (by rw [← HW.out]) ?_))
      exact ⟨⟨k + 1, by omega, by go_num, HN.out⟩, by simp [intOf]; omega⟩
    · have hlt' : ¬ (k : Int) < (n : Int) := by omega
      have hke : k = n := by omega
      subst hke
      obtain ⟨t, hg⟩ := heap_setRow_S HR.out.2.1 (S (Z k))
      have HGf := hide hg
      have HBf := hide (below_setRow HR.out.2.2 (by omega : w.heap.size ≤ w.heap.size + 1) (S (Z k)))
      have i1 := HR.out.2.1
      have hlk := HLn.out k
      clear hg
      go_wp2_with (first | (refine wpList_load_S rfl _ rfl w.heap.size rfl rI _ rD ?_) | (refine wpList_store_S rfl _ _ rfl (w.heap.size + 1) rfl (Z k) rfl hlk i1 _ rfl ?_))
      exact bodyPost_ret (v := .tuple #[.agg (S (Z k)), .int .i64 (k : Int), .bool true]) (res_S3 Tryd.results61 _ _ (w.heap.size + 1) t (Z k) hlk rfl HGf.out _ _ rfl rfl) rfl ⟨rfl, HBf.out⟩
end Go.Proofs.YtmmflekajbeamaaDoor

namespace Go.Proofs.YtmmflekajbeamaaDoor
open Go.RowKit

theorem wpList_load_midG {ops : Array Oper} {rest : List Oper} {op : Oper} {a : Act} {w : World} {Q : Exit → Act → World → Prop} (hw : Region.wanted op (yielded ops a.tmps) = true) (ty : TypeId) (x : Operand) (ho : op.op = .load ty x)
    (b o : Nat) (hx : a.eval x = .pointer (some ⟨b, o, none⟩)) (cs : List Value) (d : TypeDesc) (hc : w.rangeAt b o cs)
    (hu : Tryd.prog.underlying ty = some d) (hd : d.isRow = true) (hi : (Tryd.prog.info? ty).map (·.size) = some cs.length)
    (h : wpList Tryd.prog ops Q rest (a.put op.dst (.agg cs.toArray)) w) : wpList Tryd.prog ops Q (op :: rest) a w :=
  wpList_step fun K hK => by
    rw [if_pos hw]
    exact wp_load_mid ty x ho b o hx cs d hc hu hd hi (hK _ _ h)
theorem wpList_load_midZ {ops : Array Oper} {rest : List Oper} {op : Oper} {a : Act} {w : World} {Q : Exit → Act → World → Prop} (hw : Region.wanted op (yielded ops a.tmps) = true) (ty : TypeId) (x : Operand) (ho : op.op = .load ty x)
    (b o : Nat) (hx : a.eval x = .pointer (some ⟨b, o, none⟩)) (z : List Int) (d : TypeDesc) (hc : w.rangeAt b o (z.map (Value.int .i64)))
    (hu : Tryd.prog.underlying ty = some d) (hd : d.isRow = true) (hi : (Tryd.prog.info? ty).map (·.size) = some (z.map (Value.int .i64)).length)
    (h : wpList Tryd.prog ops Q rest (a.put op.dst (.agg (S z))) w) : wpList Tryd.prog ops Q (op :: rest) a w :=
  wpList_load_midG hw ty x ho b o hx _ d hc hu hd hi h
theorem eq128 (x : List Int) (hx : x.length = 128) (w : World) : (binOp .eql 32 (.agg (S x)) (.agg (S x))).run Tryd.prog w = .ok (.bool true) w := by
  obtain ⟨i, hi⟩ := infI1
  rw [run_eql_struct, run_equalIn_array w 9999 (S x) (S x) Tryd.underlying32 hi, csI1, eqItems_gen 9998 Tryd.underlying3 x x w _ (fun j hj => by have := List.mem_range.1 hj; omega), all_eq hx hx]
  simp
theorem mkZ_regs {regs mem : List Int} (pc st : Int) (hr : regs.length = 8) : ((mkZ regs mem pc st).drop 0).take 8 = regs := by
  unfold mkZ
  rw [List.drop_zero, List.take_append_of_le_length (by omega), List.take_of_length_le (by omega)]
theorem mkZ_mems {regs mem : List Int} (pc st : Int) (hr : regs.length = 8) (hm : mem.length = 128) : ((mkZ regs mem pc st).drop 8).take 128 = mem := by
  unfold mkZ
  rw [List.drop_append_of_le_length (by omega), List.drop_of_length_le (by omega), List.nil_append, List.take_append_of_le_length (by omega), List.take_of_length_le (by omega)]
theorem WL_allW {n : Nat} {l : List Int} (h : WL n l) : allW (gz l) n = true := by
  unfold allW
  rw [List.all_eq_true]
  intro i hi
  have hi' := List.mem_range.1 hi
  unfold isW
  rw [decide_eq_true_eq]
  refine h.2 _ ?_
  unfold gz
  rw [List.getD_eq_getElem?_getD, List.getElem?_eq_getElem (by rw [h.1]; exact hi')]
  exact List.getElem_mem _

set_option maxRecDepth 100000 in
set_option maxHeartbeats 4000000 in
theorem keepDoes_any (regs mem : List Int) (pc : Nat) (p : ByteArray) (w : World) (ht : Tab w) (hr : WL 8 regs) (hm : WL 128 mem) (hp : pc < 128) (hpl : p.size ≤ maxLen) (hpo : putsOK p)
    (hco : (comeS (blkPuts (bya (blkTxt mem pc)))).take 8 = (comeS (putL p (p.size / 8))).take 8) :
    Calls Tryd.prog 29 #[.agg (S (stZ regs mem pc 0)), .string (bya (blkTxt mem pc)), .string p] w fun e' w' => e' = .returned (.bool true) ∧ Below w.heap.size w w' := by
  have zz := zero34
  have z8 := zero8
  have HB := hide (blk_ok hm hp)
  have HPl := hide (fun w' => plains_any (bya (blkTxt mem pc)) w' (blk_ok hm hp))
  have HSt := hide (fun w' (hb : Below w.heap.size w w') => stepped_any regs mem pc w' (ht.below ht.pos hb) hr hm hp)
  have HDo := hide (fun w' => cribDo_any p regs mem w' hr.1 hm.1 hpl)
  have HRes := sound_do hr hm hp (putL_ok hpo) hco
  have hRM : okRM regs mem := ⟨WL_allW hr, WL_allW hm⟩
  have hWn := stZ_WL hr hm hp (nPl (bya (blkTxt mem pc)))
  have hl0 := stZ_len hr hm hp 0
  have hln := stZ_len hr hm hp (nPl (bya (blkTxt mem pc)))
  have q0 : ((stZ regs mem pc 0).drop 0).take 8 = regs := by rw [stZ_zero hp]; exact mkZ_regs _ _ hr.1
  have q1 : ((stZ regs mem pc 0).drop 8).take 128 = mem := by rw [stZ_zero hp]; exact mkZ_mems _ _ hr.1 hm.1
  have q2 : ((stZ regs mem pc (nPl (bya (blkTxt mem pc)))).drop 0).take 8 = ((blkPuts (bya (blkTxt mem pc))).take (nPl (bya (blkTxt mem pc)))).foldl (rD mem) regs := mkZ_regs _ _ hWn.1
  have q3 : ((stZ regs mem pc (nPl (bya (blkTxt mem pc)))).drop 8).take 128 = mem := mkZ_mems _ _ hWn.1 hm.1
  have hs7 : gz (stZ regs mem pc (nPl (bya (blkTxt mem pc)))) 137 = 0 := mkZ_st (pc := ((pc + nPl (bya (blkTxt mem pc)) : Nat) : Int) % 128) (st := 0) hWn.1 hm.1
  have hRl := hWn.1
  have hml := hm.1
  have hrl := hr.1
  generalize ((blkPuts (bya (blkTxt mem pc))).take (nPl (bya (blkTxt mem pc)))).foldl (rD mem) regs = R at *
  generalize nPl (bya (blkTxt mem pc)) = n at *
  generalize stZ regs mem pc 0 = z0 at *
  generalize stZ regs mem pc n = zn at *
  generalize bya (blkTxt mem pc) = s at *
  obtain ⟨W1, hW1⟩ : ∃ W1, W1 = w.alloc (.cells (S z0) 34) := ⟨_, rfl⟩
  have HW := hide hW1
  have r1 : RowI W1 w.heap.size 34 z0 := by unfold RowI; rw [hW1, _root_.Go.heap_alloc_new]
  have b1 : Below w.heap.size w W1 := by rw [hW1]; exact (Below.refl _ _).alloc (Nat.le_refl _) _
  have hz1 := r1.lt
  have rI := r1.isRow 138 hl0
  have rD' := r1.rowD
  have HR1 := hide r1; have HB1 := hide b1
  have HPo := hide hpo
  clear hr hm ht hco hW1 r1 b1 hWn hpo
  go_enter Tryd.func29, Tryd.ntmps29
  go_wp2_with fail
  refine (unhide HPl _).mono ?_
  rintro e w' ⟨rfl, hw⟩
  obtain rfl := hw.symm
  go_wp2_with (refine wpList_load_S rfl _ rfl w.heap.size rfl (by rw [← HW.out]; exact rI) (S z0) (by rw [← HW.out]; exact rD') ?_)
  rw [← HW.out]
  refine (unhide HSt _ HB1.out).mono ?_
  rintro e w2 ⟨rfl, hb2⟩
  have hz2 := hb2.size
  obtain ⟨W3, hW3⟩ : ∃ W3, W3 = w2.alloc (.cells (S zn) 34) := ⟨_, rfl⟩
  have HW3 := hide hW3
  have r3 : RowI W3 w2.heap.size 34 zn := by unfold RowI; rw [hW3, _root_.Go.heap_alloc_new]
  have r0 : RowI W3 w.heap.size 34 z0 := by rw [hW3]; exact (HR1.out.keep (hb2.block _ hz1)).keep (Below.heap_alloc w2 _ _ (by omega))
  have b3 : Below w.heap.size w W3 := by rw [hW3]; exact (HB1.out.trans (hb2.mono (by omega))).alloc (by omega) _
  have g0 := range_row r0 0 8 (by omega)
  have g1 := range_row r0 8 128 (by omega)
  rw [q0] at g0
  rw [q1] at g1
  have hz3 : w2.heap.size < W3.heap.size := r3.lt
  have s8 : (Tryd.prog.info? 31).map (·.size) = some (regs.map (Value.int .i64)).length := by rw [size8, List.length_map, hrl]
  have s128 : (Tryd.prog.info? 32).map (·.size) = some (mem.map (Value.int .i64)).length := by rw [size128, List.length_map, hml]
  have s8R : (Tryd.prog.info? 31).map (·.size) = some (R.map (Value.int .i64)).length := by rw [size8, List.length_map, hRl]
  have HS8 := hide s8; have HS128 := hide s128; have HS8R := hide s8R
  have HR0 := hide r0; have HR3 := hide r3; have HB3 := hide b3; have HG0 := hide g0; have HG1 := hide g1
  clear hb2 hW3 r3 r0 b3 g0 g1 s8 s128 s8R rI rD'
  go_wp2_with (first | (refine wpList_store_S rfl _ _ rfl w2.heap.size rfl zn rfl hln (by rw [isRowB_alloc_at _ _ _ _ _ rfl]; simp [S_size, zeroZ]) _ (setRow_alloc_at _ _ _ _ _ rfl) ?_) | (refine wpList_load_mid rfl 31 _ rfl w.heap.size 0 rfl (regs.map (Value.int .i64)) _ (by rw [← HW3.out]; exact HG0.out) Tryd.underlying31 rfl HS8.out ?_) | (refine wpList_load_mid rfl 32 _ rfl w.heap.size 8 rfl (mem.map (Value.int .i64)) _ (by rw [← HW3.out]; exact HG1.out) Tryd.underlying32 rfl HS128.out ?_))
  rw [← HW3.out]
  refine (unhide HDo _).mono ?_
  intro e w4 hpost
  obtain ⟨hb4, ⟨hno, _⟩ | ⟨_, hno, _⟩ | ⟨_, _, rfl⟩⟩ := hpost
  · exact absurd hRM hno
  · exact absurd HPo.out hno
  rw [HRes]
  have hz4 := hb4.size
  obtain ⟨W5, hW5⟩ : ∃ W5, W5 = w4.alloc (.cells (S R) 31) := ⟨_, rfl⟩
  have HW5 := hide hW5
  have t5 : RowI W5 w2.heap.size 34 zn := by rw [hW5]; exact (HR3.out.keep (hb4.block _ hz3)).keep (Below.heap_alloc w4 _ _ (by omega))
  have s5 : RowI W5 w.heap.size 34 z0 := by rw [hW5]; exact (HR0.out.keep (hb4.block _ (by omega))).keep (Below.heap_alloc w4 _ _ (by omega))
  have r5 : RowI W5 w4.heap.size 31 R := by unfold RowI; rw [hW5, _root_.Go.heap_alloc_new]
  have b5 : Below w.heap.size w W5 := by rw [hW5]; exact (HB3.out.trans (hb4.mono (by omega))).alloc (by omega) _
  have g0 := range_row r5 0 8 (by omega)
  have g1 := range_row t5 0 8 (by omega)
  have g2 := range_row t5 8 128 (by omega)
  have g3 := range_row s5 8 128 (by omega)
  rw [q1] at g3
  rw [q2] at g1
  rw [q3] at g2
  rw [List.drop_zero, List.take_of_length_le (by omega)] at g0
  have c7 := t5.cell 137 (by omega)
  rw [hs7, hW5] at c7
  have c7w := (HR3.out.keep (hb4.block _ hz3)).cell 137 (by omega)
  rw [hs7] at c7w
  have n24 : ¬ w2.heap.size = w4.heap.size := by omega
  have e8 := eq8 R R hRl hRl
  rw [decide_eq_true rfl] at e8
  have e128 := eq128 mem hml
  have HB5 := hide b5; have HG0' := hide g0; have HG1' := hide g1; have HG2 := hide g2; have HG3 := hide g3
  clear hb4 t5 s5 r5 b5 g0 g1 g2 g3
  go_wp2_with (first | (refine wpList_storeR size8 rfl _ _ rfl w4.heap.size rfl R rfl hRl (by rw [isRowB_alloc_at _ _ _ _ _ rfl]; rfl) _ (setRow_alloc_at _ _ _ _ _ rfl) ?_) | (refine wpList_load_midZ rfl 31 _ rfl w4.heap.size 0 rfl R _ (by rw [← hW5]; exact HG0'.out) Tryd.underlying31 rfl HS8R.out ?_) | (refine wpList_load_midZ rfl 31 _ rfl w2.heap.size 0 rfl R _ (by rw [← hW5]; exact HG1'.out) Tryd.underlying31 rfl HS8R.out ?_) | (refine wpList_load_midZ rfl 32 _ rfl w2.heap.size 8 rfl mem _ (by rw [← hW5]; exact HG2.out) Tryd.underlying32 rfl HS128.out ?_) | (refine wpList_load_midZ rfl 32 _ rfl w.heap.size 8 rfl mem _ (by rw [← hW5]; exact HG3.out) Tryd.underlying32 rfl HS128.out ?_))
  go_ret
  exact ⟨rfl, by rw [← hW5]; exact HB5.out⟩
end Go.Proofs.YtmmflekajbeamaaDoor

namespace Go.Proofs.YtmmflekajbeamaaDoor
open Go.RowKit

set_option maxRecDepth 100000 in
set_option maxHeartbeats 2000000 in
theorem refBlockAt_any (z mem : List Int) (pc : Nat) (w : World) (hl : z.length = 138) (hz : ∀ i, i < 128 → gz z (8 + i) = mem.getD i 0) (hm : ∀ i, 0 ≤ mem.getD i 0 ∧ mem.getD i 0 < 4294967296) (hpc : pc < 128) :
    Calls Tryd.prog 91 #[.agg (S z), .int .i64 (pc : Int)] w fun e' w' => e' = .returned (.string (bya (blkTxt mem pc))) ∧ Below w.heap.size w w' := by
  have hr : RowI (w.alloc (.cells (S z) 34)) w.heap.size 34 z := _root_.Go.heap_alloc_new w _
  have hb1 : Below w.heap.size w (w.alloc (.cells (S z) 34)) := (Below.refl w.heap.size w).alloc (Nat.le_refl _) _
  have HR := hide hr; have HB := hide hb1; have HM := hide hm; have HZ := hide hz
  have hpc' : (pc : Int) < 128 := by omega
  clear hr hb1 hm hz
  go_enter Tryd.func91, Tryd.ntmps91
  go_wp2_with fail
  go_loopw [5, 6] (fun t i wr => ∃ k : Nat, k ≤ 8 ∧ pc + k ≤ 128 ∧ i = .int .i64 k ∧ t = .string (bya (wdsT (blkW mem pc k))) ∧ Hid ((∀ q, q < k → plW (mem.getD (pc + q) 0) = true) ∧ RowI wr w.heap.size 34 z ∧ Below w.heap.size w wr)) (fun _ i _ => 8 - (intOf i).toNat)
  case atStart => exact ⟨0, Nat.zero_le _, by omega, rfl, rfl, fun q hq => by omega, HR.out, HB.out⟩
  case round =>
    obtain ⟨k, hk, hpk, rfl, rfl, HR2⟩ := hrel
    obtain ⟨hpl, hrow, hbl⟩ := HR2.out
    by_cases h8 : k < 8
    · have h8' : (k : Int) < 8 := by omega
      by_cases hlt : pc + k < 128
      · have hlt' : (pc : Int) + (k : Int) < 128 := by omega
        have hc := HM.out (pc + k)
        have hx0 : mem.getD (pc + k) 0 = (((mem.getD (pc + k) 0).toNat : Nat) : Int) := (Int.toNat_of_nonneg hc.1).symm
        have cm := hrow.cell (8 + (pc + k)) (by omega)
        rw [HZ.out (pc + k) hlt, hx0] at cm
        have HX : Hid (bya (wdsT (blkW mem pc k)) ++ bya (numB 4 (mem.getD (pc + k) 0).toNat) = bya (wdsT (blkW mem pc (k + 1)))) := by unfold Hid; rw [blkW_succ, wdsT_snoc, bya_app]
        have HPl := hide (fun w' => plain_any (mem.getD (pc + k) 0) w' hc.1 hc.2)
        have hplw : plB (fop (mem.getD (pc + k) 0)) (fa (mem.getD (pc + k) 0)) (fb (mem.getD (pc + k) 0)) (fc (mem.getD (pc + k) 0)) = plW (mem.getD (pc + k) 0) := rfl
        rw [hplw, hx0] at HPl
        have HNm := hide (fun w' => number_ref (mem.getD (pc + k) 0).toNat 4 w' (by decide) (by omega))
        have z1 : (bya (wdsT (blkW mem pc k))).size ≤ 64 := by rw [bya_size, wdsT_len, blkW_len]; omega
        have z2 : (bya (numB 4 (mem.getD (pc + k) 0).toNat)).size ≤ 64 := by rw [bya_size, numB_len]; decide
        have HEnd : Hid (plW (mem.getD (pc + k) 0) = false → blkTxt mem pc = wdsT (blkW mem pc (k + 1))) := fun hp => by
          unfold blkTxt
          rw [blkN_end mem pc (k + 1) (by omega) (by omega) (fun j hj => hpl j (by omega)) (by omega) (.inr (.inr (by rw [Nat.add_sub_cancel, hp]; decide)))]
        have HNx : Hid (plW (mem.getD (pc + k) 0) = true → ∀ q, q < k + 1 → plW (mem.getD (pc + q) 0) = true) := fun hp q hq => by
          by_cases hqk : q < k
          · exact hpl q hqk
          · obtain rfl : q = k := by omega
            exact hp
        rw [hx0] at HEnd HNx
        generalize bya (wdsT (blkW mem pc k)) = D1 at *
        generalize (mem.getD (pc + k) 0).toNat = x at *
        generalize bya (numB 4 x) = D2 at *
        have HRw := hide hrow; have HBl := hide hbl
        have hwz : w.heap.size < wr.heap.size := hrow.lt
        clear hc hx0 hplw hpl hrow hbl
        cases hq : plW (x : Int)
        · rw [hq] at HPl HEnd
          go_wp2_with fail
          refine (unhide HNm _).mono ?_
          rintro e w1 ⟨rfl, hb1⟩
          have HB1 : Hid (Below w.heap.size w w1) := HBl.out.trans (hb1.mono (by omega))
          clear hb1
          go_wp2_with fail
          refine (unhide HPl _).mono ?_
          rintro e w' ⟨rfl, hw⟩
          obtain rfl := hw.symm
          go_wp2_with fail
          go_ret
          refine ⟨?_, HB1.out⟩
          rw [HEnd.out (by first | trivial | rfl), ← HX.out]; rfl
        · rw [hq] at HPl HNx
          go_wp2_with fail
          refine (unhide HNm _).mono ?_
          rintro e w1 ⟨rfl, hb1⟩
          have HB1 : Hid (Below w.heap.size w w1) := HBl.out.trans (hb1.mono (by omega))
          have HR1 : Hid (RowI w1 w.heap.size 34 z) := HRw.out.keep (hb1.block _ hwz)
          clear hb1
          go_wp2_with fail
          refine (unhide HPl _).mono ?_
          rintro e w' ⟨rfl, hw⟩
          obtain rfl := hw.symm
          go_wp2_with fail
          refine ⟨⟨k + 1, by omega, by omega, by go_num, ?_, HNx.out (by first | trivial | rfl), HR1.out, HB1.out⟩, by simp [intOf]; omega⟩
          rw [HX.out]
      · have hlt' : ¬ (pc : Int) + (k : Int) < 128 := by omega
        have hlt'' : decide ((pc : Int) + (k : Int) < 128) = false := decide_eq_false hlt'
        have HEnd : Hid (blkTxt mem pc = wdsT (blkW mem pc k)) := by
          unfold Hid blkTxt
          rw [blkN_end mem pc k (by omega) hk (fun j hj => hpl j (by omega)) (by omega) (.inl (by omega))]
        have HBl := hide hbl
        clear hpl hrow hbl
        go_wp2_with fail
        go_ret
        refine ⟨?_, HBl.out⟩
        rw [HEnd.out]; rfl
    · have h8' : ¬ (k : Int) < 8 := by omega
      have HEnd : Hid (blkTxt mem pc = wdsT (blkW mem pc k)) := by
        unfold Hid blkTxt
        rw [blkN_end mem pc k (by omega) hk (fun j hj => hpl j (by omega)) (by omega) (.inr (.inl (by omega)))]
      have HBl := hide hbl
      clear hpl hrow hbl
      go_wp2_with fail
      go_ret
      refine ⟨?_, HBl.out⟩
      rw [HEnd.out]; rfl

theorem stB_mp {mem : List Int} {pc : Int} (hm : mem.length = 128) : stB (mkZ (List.replicate 8 0) mem pc 0) = true ↔ inM mem pc := by
  have hr : (List.replicate 8 (0 : Int)).length = 8 := by simp
  unfold stB inM
  rw [Bool.and_eq_true, Bool.and_eq_true]
  have e1 : regsB (mkZ (List.replicate 8 0) mem pc 0) = true := by
    unfold regsB
    rw [List.all_eq_true]
    intro i hi
    rw [mkZ_reg hr (List.mem_range.1 hi), List.getD_eq_getElem?_getD, List.getElem?_replicate, if_pos (List.mem_range.1 hi)]
    rfl
  have e2 : memB (mkZ (List.replicate 8 0) mem pc 0) = allW (gz mem) 128 := by
    unfold memB allW
    rw [Bool.eq_iff_iff, List.all_eq_true, List.all_eq_true]
    constructor
    · intro h i hi
      have := h i hi
      rw [mkZ_mem hr hm (List.mem_range.1 hi)] at this
      exact this
    · intro h i hi
      rw [mkZ_mem hr hm (List.mem_range.1 hi)]
      exact h i hi
  have e3 : pcB (mkZ (List.replicate 8 0) mem pc 0) = true ↔ 0 ≤ pc ∧ pc < 128 := by
    unfold pcB
    rw [mkZ_pc hr hm, mkZ_st hr hm]
    simp
  rw [e1, e2, e3]
  simp

set_option maxRecDepth 100000 in
set_option maxHeartbeats 2000000 in
theorem refBlock_any (mem : List Int) (pc : Int) (w : World) (hl : mem.length = 128) :
    Calls Tryd.prog 55 #[.agg (S mem), .int .i64 pc] w (BlkPost mem pc w) := by
  have hrl : (List.replicate 8 (0 : Int)).length = 8 := by simp
  have hst := stB_mp (pc := pc) hl
  have hZm : ∀ i, i < 128 → gz (mkZ (List.replicate 8 0) mem pc 0) (8 + i) = mem.getD i 0 := fun i hi => mkZ_mem hrl hl hi
  have hZl : (mkZ (List.replicate 8 0) mem pc 0).length = 138 := mkZ_len hrl hl
  have HBd := hide (build_mp mem pc hl)
  generalize mkZ (List.replicate 8 0) mem pc 0 = z at *
  obtain ⟨W1, hW1⟩ : ∃ W1, W1 = w.alloc (.cells (S mem) 32) := ⟨_, rfl⟩
  have HW := hide hW1
  have z34 := zero34
  have hz1 : W1.heap.size = w.heap.size + 1 := by rw [hW1, size_alloc1]
  have r0 : RowI W1 w.heap.size 32 mem := by unfold RowI; rw [hW1, _root_.Go.heap_alloc_new]
  have r1 : RowI (W1.alloc (.cells (S zeroZ) 34)) (w.heap.size + 1) 34 zeroZ := by
    unfold RowI
    have := _root_.Go.heap_alloc_new W1 (.cells (S zeroZ) 34)
    rw [hz1] at this
    exact this
  obtain ⟨W2, hW2⟩ : ∃ W2, W2 = (W1.alloc (.cells (S zeroZ) 34)).setRow (w.heap.size + 1) (S z) := ⟨_, rfl⟩
  have r2 : RowI W2 (w.heap.size + 1) 34 z := by rw [hW2]; exact r1.setRow z
  have hb1 : Below w.heap.size w W1 := by rw [hW1]; exact (Below.refl _ _).alloc (Nat.le_refl _) _
  have hb2 : Below w.heap.size w W2 := by rw [hW2]; exact below_setRow (hb1.alloc (by omega) _) (by omega) _
  have HW2 := hide hW2; have HR0 := hide r0; have HR1 := hide r1; have HR2 := hide r2; have HB2 := hide hb2
  have HRt := hide (right_any z W2 hZl)
  have hz2 : w.heap.size + 1 < W2.heap.size := r2.lt
  clear r0 r1 r2 hb1 hb2 hW1 hW2
  by_cases hok : inM mem pc
  · rw [hst.2 hok] at HRt
    have HOK := hide hok
    obtain ⟨n, rfl⟩ : ∃ n : Nat, pc = (n : Int) := ⟨pc.toNat, by have := hok.2.1; omega⟩
    have HAt := hide (fun w' => refBlockAt_any z mem n w' hZl hZm (inM_bd hl hok.1) (by have := hok.2.2; omega))
    have HFin : Hid (∀ w', Below W2.heap.size W2 w' → BlkPost mem (n : Int) w (.returned (.tuple #[.string (bya (blkTxt mem n)), .int .i64 0])) w') := fun w' hb => ⟨HB2.out.trans (hb.mono HB2.out.size), .inl ⟨HOK.out, by rw [Int.toNat_natCast]⟩⟩
    clear hst hok hZm
    go_enter Tryd.func55, Tryd.ntmps55
    go_wp2_with (first | (refine wpList_loadR rfl Tryd.underlying32 size128 rfl _ rfl w.heap.size rfl (by rw [← HW.out]; exact HR0.out.isRow 128 hl) (S mem) (by rw [← HW.out]; exact HR0.out.rowD) ?_) | (refine wpList_buildR rfl 34 1 2 _ _ rfl (.agg (S mem)) (.int .i64 (n : Int)) _ rfl rfl (HBd.out _) ?_) | (refine wpList_storeR size34 rfl _ _ rfl (w.heap.size + 1) rfl z rfl hZl (by rw [← HW.out]; exact HR1.out.isRow 138 (by simp [zeroZ])) W2 (by rw [← HW.out]; exact HW2.out.symm) ?_) | (refine wpList_loadR rfl Tryd.underlying34 size34 rfl _ rfl (w.heap.size + 1) rfl (HR2.out.isRow 138 hZl) (S z) HR2.out.rowD ?_))
    refine (unhide HRt).mono ?_
    rintro e w1 ⟨rfl, hb1⟩
    have HB1 := hide hb1
    have HR3 := hide (HR2.out.keep (hb1.block _ hz2))
    clear hb1
    go_wp2_with (refine wpList_loadR rfl Tryd.underlying34 size34 rfl _ rfl (w.heap.size + 1) rfl (HR3.out.isRow 138 hZl) (S z) HR3.out.rowD ?_)
    refine (unhide HAt _).mono ?_
    rintro e w2 ⟨rfl, hb2⟩
    have HB3 : Hid (Below W2.heap.size W2 w2) := HB1.out.trans (hb2.mono HB1.out.size)
    clear hb2
    go_wp2_with fail
    go_ret2
    exact HFin.out _ HB3.out
  · have hf : stB z = false := by
      cases hq : stB z
      · rfl
      · exact absurd (hst.1 hq) hok
    rw [hf] at HRt
    have HOK := hide hok
    have HFin : Hid (∀ w', Below W2.heap.size W2 w' → BlkPost mem pc w (.returned (.tuple #[.string (bya []), .int .i64 8])) w') := fun w' hb => ⟨HB2.out.trans (hb.mono HB2.out.size), .inr ⟨HOK.out, rfl⟩⟩
    clear hst hok hZm hf
    go_enter Tryd.func55, Tryd.ntmps55
    go_wp2_with (first | (refine wpList_loadR rfl Tryd.underlying32 size128 rfl _ rfl w.heap.size rfl (by rw [← HW.out]; exact HR0.out.isRow 128 hl) (S mem) (by rw [← HW.out]; exact HR0.out.rowD) ?_) | (refine wpList_buildR rfl 34 1 2 _ _ rfl (.agg (S mem)) (.int .i64 pc) _ rfl rfl (HBd.out _) ?_) | (refine wpList_storeR size34 rfl _ _ rfl (w.heap.size + 1) rfl z rfl hZl (by rw [← HW.out]; exact HR1.out.isRow 138 (by simp [zeroZ])) W2 (by rw [← HW.out]; exact HW2.out.symm) ?_) | (refine wpList_loadR rfl Tryd.underlying34 size34 rfl _ rfl (w.heap.size + 1) rfl (HR2.out.isRow 138 hZl) (S z) HR2.out.rowD ?_))
    refine (unhide HRt).mono ?_
    rintro e w1 ⟨rfl, hb1⟩
    have HB1 := hide hb1
    clear hb1
    go_wp2_with fail
    go_ret2
    exact HFin.out _ HB1.out
end Go.Proofs.YtmmflekajbeamaaDoor

namespace Go.Proofs.YtmmflekajbeamaaDoor
open Go.RowKit

theorem BlkPost.form {mem : List Int} {pc : Int} {w w' : World} {e : Ending} (h : BlkPost mem pc w e w') : ∃ D n, e = .returned (.tuple #[.string D, .int .i64 n]) := by
  obtain ⟨_, ⟨_, rfl⟩ | ⟨_, rfl⟩⟩ := h
  · exact ⟨_, _, rfl⟩
  · exact ⟨_, _, rfl⟩
theorem BlkPost.one {mem : List Int} {pc : Int} {w1 w2 w1' w2' : World} {e1 e2 : Ending} (h1 : BlkPost mem pc w1 e1 w1') (h2 : BlkPost mem pc w2 e2 w2') : e1 = e2 := by
  obtain ⟨_, ⟨a, rfl⟩ | ⟨a, rfl⟩⟩ := h1 <;> obtain ⟨_, ⟨c, rfl⟩ | ⟨c, rfl⟩⟩ := h2
  all_goals first | rfl | exact absurd a c | exact absurd c a

set_option maxRecDepth 100000 in
set_option maxHeartbeats 2000000 in
theorem cribBlock_any (mem : List Int) (pc : Int) (w : World) (ht : Tab w) (hl : mem.length = 128) :
    Calls Tryd.prog 25 #[.agg (S mem), .int .i64 pc] w (BlkPost mem pc w) := by
  obtain ⟨W0, hW0⟩ : ∃ W0, W0 = w.alloc (.cells (S mem) 32) := ⟨_, rfl⟩
  have HW := hide hW0
  have hb0 : Below w.heap.size w W0 := by rw [hW0]; exact (Below.refl _ _).alloc (Nat.le_refl _) _
  have r0 : RowI W0 w.heap.size 32 mem := by unfold RowI; rw [hW0, _root_.Go.heap_alloc_new]
  have HR0 := hide r0; have HB0 := hide hb0
  have HC := hide (block_any mem pc W0 (ht.below ht.pos hb0) hl)
  clear r0 hb0 hW0
  go_enter Tryd.func25, Tryd.ntmps25
  go_wp2_with (refine wpList_loadR rfl Tryd.underlying32 size128 rfl _ rfl w.heap.size rfl (by rw [← HW.out]; exact HR0.out.isRow 128 hl) (S mem) (by rw [← HW.out]; exact HR0.out.rowD) ?_)
  rw [← HW.out]
  refine (unhide HC).mono ?_
  intro e w1 hpost
  obtain ⟨D, n, rfl⟩ := hpost.form
  have HP := hide (hpost.up HB0.out)
  clear hpost
  go_wp2_with fail
  go_ret2
  exact HP.out

set_option maxRecDepth 100000 in
set_option maxHeartbeats 2000000 in
theorem blocks_any (mem : List Int) (pc : Int) (w : World) (ht : Tab w) (hl : mem.length = 128) :
    Calls Tryd.prog 21 #[.agg (S mem), .int .i64 pc] w fun e' w' => e' = .returned (.bool true) ∧ Below w.heap.size w w' := by
  obtain ⟨W0, hW0⟩ : ∃ W0, W0 = w.alloc (.cells (S mem) 32) := ⟨_, rfl⟩
  have HW := hide hW0
  have hb0 : Below w.heap.size w W0 := by rw [hW0]; exact (Below.refl _ _).alloc (Nat.le_refl _) _
  have r0 : RowI W0 w.heap.size 32 mem := by unfold RowI; rw [hW0, _root_.Go.heap_alloc_new]
  have HR0 := hide r0; have HB0 := hide hb0
  have hlt0 := r0.lt
  have H1 := hide (cribBlock_any mem pc W0 (ht.below ht.pos hb0) hl)
  have H2 := hide (fun w' => refBlock_any mem pc w' hl)
  clear r0 hb0 hW0 ht
  go_enter Tryd.func21, Tryd.ntmps21
  go_wp2_with (refine wpList_loadR rfl Tryd.underlying32 size128 rfl _ rfl w.heap.size rfl (by rw [← HW.out]; exact HR0.out.isRow 128 hl) (S mem) (by rw [← HW.out]; exact HR0.out.rowD) ?_)
  rw [← HW.out]
  refine (unhide H1).mono ?_
  intro e w1 hpost
  obtain ⟨D, n, rfl⟩ := hpost.form
  have HP1 := hide hpost
  have HB1 : Hid (Below w.heap.size w w1) := HB0.out.trans (hpost.1.mono HB0.out.size)
  have HR1 := hide (HR0.out.keep (hpost.1.block _ hlt0))
  clear hpost H1
  go_wp2_with (refine wpList_loadR rfl Tryd.underlying32 size128 rfl _ rfl w.heap.size rfl (HR1.out.isRow 128 hl) (S mem) HR1.out.rowD ?_)
  refine (unhide H2 _).mono ?_
  intro e w2 hpost
  have he := BlkPost.one HP1.out hpost
  subst he
  have HB2 : Hid (Below w.heap.size w w2) := HB1.out.trans (hpost.1.mono HB1.out.size)
  have HNm := hide (fun w' => num_any n w')
  clear hpost H2 HP1
  go_wp2_with fail
  refine (unhide HNm _).mono ?_
  rintro e w' ⟨rfl, hw'⟩
  obtain rfl := hw'.symm
  go_wp2_with fail
  go_ret
  exact ⟨ret_bool (by simp), HB2.out⟩
end Go.Proofs.YtmmflekajbeamaaDoor

namespace Go.Proofs.YtmmflekajbeamaaDoor
open Go.RowKit

def knM : List Int := (List.replicate 128 (0 : Int)).set 0 17825799
def knZ0 : List Int := zeroZ.set 8 17825799
theorem knZ0_mk : knZ0 = mkZ (List.replicate 8 0) knM (0 : Nat) 0 := by decide
theorem knR_WL : WL 8 (List.replicate 8 (0 : Int)) := ⟨by simp, fun x hx => by rw [List.eq_of_mem_replicate hx]; decide⟩
theorem knM_WL : WL 128 knM := ⟨by simp [knM], fun x hx => by
  unfold knM at hx
  rcases List.mem_or_eq_of_mem_set hx with h | h
  · rw [List.eq_of_mem_replicate h]; decide
  · rw [h]; decide⟩
theorem knM_txt : blkTxt knM 0 = numB 4 17825799 ++ numB 4 0 := by decide
theorem kn_step : stp knZ0 = (mkZ ((List.replicate 8 (0 : Int)).set 1 7) knM 1 0, 0) := by
  rw [knZ0_mk, stp_plain knR_WL knM_WL (by decide) (by decide)]
  decide
set_option maxRecDepth 100000 in
set_option maxHeartbeats 4000000 in
theorem known_true (w : World) (ht : Tab w) :
    Calls Tryd.prog 23 #[] w fun e' w' => e' = .returned (.bool true) ∧ Below w.heap.size w w' := by
  have zz := zero34
  have hin : inM knM 0 := ⟨WL_allW knM_WL, by decide, by decide⟩
  have HBk := hide (fun w' (hb : Below w.heap.size w w') => cribBlock_any knM 0 w' (ht.below ht.pos hb) knM_WL.1)
  have HSt := hide (fun w' (hb : Below w.heap.size w w') => cribStep_any knZ0 w' (by simp [knZ0, zeroZ]) (ht.below ht.pos hb))
  rw [kn_step] at HSt
  simp only at HSt
  have HN1 := hide (fun w' => keepNumber_any 17825799 4 w' (by decide) (by decide))
  have HN2 := hide (fun w' => keepNumber_any 0 4 w' (by decide) (by decide))
  have hS : (S zeroZ).setIfInBounds 8 (Value.int .i64 17825799) = S knZ0 := by
    unfold S knZ0
    rw [List.setIfInBounds_toArray, List.map_set]
  obtain ⟨W1, hW1⟩ : ∃ W1, W1 = w.alloc (.cells (S knZ0) 34) := ⟨_, rfl⟩
  have hW1' : w.alloc (.cells ((S zeroZ).setIfInBounds 8 (Value.int .i64 17825799)) 34) = W1 := by rw [hS, hW1]
  have r1 : RowI W1 w.heap.size 34 knZ0 := by unfold RowI; rw [hW1, _root_.Go.heap_alloc_new]
  have b1 : Below w.heap.size w W1 := by rw [hW1]; exact (Below.refl _ _).alloc (Nat.le_refl _) _
  have hl : knZ0.length = 138 := by simp [knZ0, zeroZ]
  have g1 := range_row r1 8 128 (by omega)
  rw [show (knZ0.drop 8).take 128 = knM by rw [knZ0_mk]; exact mkZ_mems _ _ (by simp) knM_WL.1] at g1
  have s128 : (Tryd.prog.info? 32).map (·.size) = some (knM.map (Value.int .i64)).length := by rw [size128, List.length_map, knM_WL.1]
  have hz1 := r1.lt
  have HW := hide hW1'; have HR1 := hide r1; have HB1 := hide b1; have HG1 := hide g1; have HS128 := hide s128
  obtain ⟨Z1, hZ1⟩ : ∃ Z1, Z1 = mkZ ((List.replicate 8 (0 : Int)).set 1 7) knM 1 0 := ⟨_, rfl⟩
  rw [← hZ1] at HSt
  have hlZ : Z1.length = 138 := by rw [hZ1]; simp [mkZ, knM]
  have HZ : Hid (gz Z1 1 = 7 ∧ gz Z1 136 = 1 ∧ gz Z1 137 = 0) := by unfold Hid; rw [hZ1]; decide
  have HTx : Hid (bya (blkTxt knM 0) = bya (numB 4 17825799) ++ bya (numB 4 0)) := by unfold Hid; rw [knM_txt, bya_app]
  have z1 : (bya (numB 4 17825799)).size ≤ 8 := by rw [bya_size, numB_len]; decide
  have z2 : (bya (numB 4 0)).size ≤ 8 := by rw [bya_size, numB_len]; decide
  have HIn := hide hin
  generalize bya (numB 4 17825799) = D1 at *
  generalize bya (numB 4 0) = D2 at *
  clear ht hW1 hW1' r1 b1 g1 s128 hS hin hZ1
  go_enter Tryd.func23, Tryd.ntmps23
  go_wp2_with (refine wpList_load_midZ rfl 32 _ rfl w.heap.size 8 rfl knM _ (by rw [HW.out]; exact HG1.out) Tryd.underlying32 rfl HS128.out ?_)
  rw [HW.out]
  refine (unhide HBk _ HB1.out).mono ?_
  rintro e w2 ⟨hb2, ⟨_, rfl⟩ | ⟨hno, _⟩⟩
  rotate_left
  · exact absurd HIn.out hno
  have r2 := HR1.out.keep (hb2.block _ hz1)
  have rI := r2.isRow 138 hl
  have rD' := r2.rowD
  have HB2 : Hid (Below w.heap.size w w2) := HB1.out.trans (hb2.mono (by omega))
  have hz2 := hb2.size
  clear hb2 HBk r2
  go_wp2_with (refine wpList_load_S rfl _ rfl w.heap.size rfl rI _ rD' ?_)
  refine (unhide HSt _ HB2.out).mono ?_
  rintro e w3 ⟨rfl, hb3⟩
  have hz3 := hb3.size
  have HB3 : Hid (Below w.heap.size w (w3.alloc (.cells (S Z1) 34))) := (HB2.out.trans (hb3.mono (by omega))).alloc (by omega) _
  have r3 : RowI (w3.alloc (.cells (S Z1) 34)) w3.heap.size 34 Z1 := _root_.Go.heap_alloc_new w3 _
  have HR3 := hide r3
  clear hb3 rI rD' r3 HSt
  go_wp2_with (refine wpList_store_S rfl _ _ rfl w3.heap.size rfl Z1 rfl hlZ (by rw [isRowB_alloc_at _ _ _ _ _ rfl]; simp [S_size, zeroZ]) _ (setRow_alloc_at _ _ _ _ _ rfl) ?_)
  refine (unhide HN1 _).mono ?_
  rintro e w4 ⟨rfl, hb4⟩
  rw [HTx.out]
  have hz4 := hb4.size
  rw [size_alloc1] at hz4
  have HB4 : Hid (Below w.heap.size w w4) := HB3.out.trans (hb4.mono (by rw [size_alloc1]; omega))
  have HR4 := hide (HR3.out.keep (hb4.block _ (by rw [size_alloc1]; omega)))
  clear hb4
  go_wp2_with fail
  refine (unhide HN2 _).mono ?_
  rintro e w5 ⟨rfl, hb5⟩
  have r5 := HR4.out.keep (hb5.block _ (by omega))
  have HB5 : Hid (Below w.heap.size w w5) := HB4.out.trans (hb5.mono (by omega))
  have c1 := r5.cell 1 (by omega)
  have c6 := r5.cell 136 (by omega)
  have c7 := r5.cell 137 (by omega)
  rw [HZ.out.1] at c1
  rw [HZ.out.2.1] at c6
  rw [HZ.out.2.2] at c7
  clear hb5 r5
  go_wp2_with fail
  go_ret
  exact ⟨rfl, HB5.out⟩
end Go.Proofs.YtmmflekajbeamaaDoor
