/-
  THE LAW Plans, walked: it answers true, for every two texts and every state.
  Sound: a plan that comes to the same does what the block's plain words do (does).
  Translates: the block at a place of the memory, the document's answer (cribref.BlockAt, Block).
-/
import Derived.Test.YtmmflekajbeamaaDoorS25
import Derived.Test.YtmmflekajbeamaaDoorS26
import Derived.Test.YtmmflekajbeamaaDoorS27
import Derived.Deep.MidRow
import Derived.Test.YtmmflekajbeamaaDoorS24
import Derived.Test.YtmmflekajbeamaaDoorS19
namespace Go.Proofs.YtmmflekajbeamaaDoor
open Go.RowKit

set_option maxRecDepth 100000 in
set_option maxHeartbeats 2000000 in
theorem accepts_any (s p : ByteArray) (w : World) (ht : Tab w) (hs : s.size ≤ maxLen) (hp : p.size ≤ maxLen) :
    Calls Tryd.prog 20 #[.string s, .string p] w fun e' w' => e' = .returned (.bool true) ∧ Below w.heap.size w w' := by
  have H1 := hide (cribAccept_any s p w ht hs hp)
  have H2 := hide (fun w' => refAccept_any s p w' hs hp)
  clear ht
  go_enter Tryd.func20, Tryd.ntmps20
  go_wp2_with fail
  refine (unhide H1).mono ?_
  rintro e w1 ⟨hb1, n, rfl, hn⟩
  have HB1 := hide hb1; have HN := hide hn
  have hz1 := hb1.size
  clear hb1 hn H1
  go_wp2_with fail
  refine (unhide H2 _).mono ?_
  rintro e w2 ⟨hb2, m, rfl, hm⟩
  obtain rfl := HN.out.one hm
  have HB2 : Hid (Below w.heap.size w w2) := HB1.out.trans (hb2.mono hz1)
  have HNm := hide (fun w' => num_any n w')
  clear hb2 hm H2
  go_wp2_with fail
  refine (unhide HNm _).mono ?_
  rintro e w' ⟨rfl, hw'⟩
  obtain rfl := hw'.symm
  go_wp2_with fail
  go_ret
  exact ⟨ret_bool (by simp), HB2.out⟩

theorem DoPost.one {p : ByteArray} {regs mem : List Int} {w1 w2 w1' w2' : World} {e1 e2 : Ending} (h1 : DoPost p regs mem w1 e1 w1') (h2 : DoPost p regs mem w2 e2 w2') : e1 = e2 := by
  obtain ⟨_, ⟨a, rfl⟩ | ⟨a, b, rfl⟩ | ⟨a, b, rfl⟩⟩ := h1 <;> obtain ⟨_, ⟨c, rfl⟩ | ⟨c, d, rfl⟩ | ⟨c, d, rfl⟩⟩ := h2
  all_goals first | rfl | exact absurd a c | exact absurd c a | exact absurd b d | exact absurd d b
theorem DoPost.form {p : ByteArray} {regs mem : List Int} {w w' : World} {e : Ending} (hr : regs.length = 8) (hm : mem.length = 128) (h : DoPost p regs mem w e w') : ∃ z n, e = .returned (.tuple #[.agg (S z), .int .i64 n]) ∧ z.length = 8 := by
  obtain ⟨hb, ⟨h1, rfl⟩ | ⟨h1, h2, rfl⟩ | ⟨h1, h2, rfl⟩⟩ := h
  · exact ⟨_, _, rfl, zr_len 8⟩
  · exact ⟨_, _, rfl, zr_len 8⟩
  · refine ⟨_, _, rfl, ?_⟩
    have hl : ((putL p (p.size / 8)).foldl (stD mem) (begD regs)).length = 16 := by
      have := (WL.fold (allW_WL h1.2 hm) (putL_ok h2) (putL p (p.size / 8)).length (begD regs) (Nat.le_refl _) (WL.beg (allW_WL h1.1 hr))).1
      rw [List.take_length] at this
      exact this
    unfold doL
    rw [List.length_take, hl]
    rfl
theorem range_row {w : World} {g : Nat} {t : TypeId} {z : List Int} (h : RowI w g t z) (o k : Nat) (ho : o + k ≤ z.length) : w.rangeAt g o (((z.drop o).take k).map (Value.int .i64)) := by
  intro j v hj
  have hlt := (List.getElem?_eq_some_iff.1 hj).1
  simp only [List.length_map, List.length_take, List.length_drop] at hlt
  rw [h.cell (o + j) (by omega)]
  rw [List.getElem?_map, List.getElem?_take, if_pos (by omega), List.getElem?_drop] at hj
  unfold gz
  rw [List.getD_eq_getElem?_getD]
  cases hq : z[o + j]? with
  | none => rw [hq] at hj; cases hj
  | some y => rw [hq] at hj; exact hj

set_option maxRecDepth 100000 in
set_option maxHeartbeats 2000000 in
theorem does_any (p : ByteArray) (z : List Int) (w : World) (hz : z.length = 138) (hp : p.size ≤ maxLen) :
    Calls Tryd.prog 19 #[.string p, .agg (S z)] w fun e' w' => e' = .returned (.bool true) ∧ Below w.heap.size w w' := by
  have z8 := zero8
  have hr : ((z.drop 0).take 8).length = 8 := by simp [hz]
  have hm : ((z.drop 8).take 128).length = 128 := by simp [hz]
  have H1 := hide (fun w' => cribDo_any p ((z.drop 0).take 8) ((z.drop 8).take 128) w' hr hm hp)
  have H2 := hide (fun w' => refDo_any p ((z.drop 0).take 8) ((z.drop 8).take 128) w' hr hm hp)
  have HR : Hid (RowI (w.alloc (.cells (S z) 34)) w.heap.size 34 z) := _root_.Go.heap_alloc_new w _
  have HB0 := hide ((Below.refl w.heap.size w).alloc (Nat.le_refl _) (.cells (S z) 34))
  have s8 : (Tryd.prog.info? 31).map (·.size) = some (((z.drop 0).take 8).map (Value.int .i64)).length := by rw [size8, List.length_map, hr]
  have s128 : (Tryd.prog.info? 32).map (·.size) = some (((z.drop 8).take 128).map (Value.int .i64)).length := by rw [size128, List.length_map, hm]
  have HS8 := hide s8; have HS128 := hide s128
  clear s8 s128
  have HF := hide (fun w1 w1' e => DoPost.form (p := p) (w := w1) (w' := w1') (e := e) hr hm)
  have HRg := hide (fun w' (h : RowI w' w.heap.size 34 z) => range_row h 0 8 (by omega))
  have HRm := hide (fun w' (h : RowI w' w.heap.size 34 z) => range_row h 8 128 (by omega))
  clear hr hm
  generalize hrg : (z.drop 0).take 8 = rg at *
  generalize hmg : (z.drop 8).take 128 = mg at *
  clear hrg hmg
  go_enter Tryd.func19, Tryd.ntmps19
  go_wp2_with (first | (refine wpList_load_mid rfl 31 _ rfl w.heap.size 0 rfl (rg.map (Value.int .i64)) _ (HRg.out _ HR.out) Tryd.underlying31 rfl HS8.out ?_) | (refine wpList_load_mid rfl 32 _ rfl w.heap.size 8 rfl (mg.map (Value.int .i64)) _ (HRm.out _ HR.out) Tryd.underlying32 rfl HS128.out ?_))
  refine (unhide H1 _).mono ?_
  intro e w1 hpost
  obtain ⟨z1, n1, rfl, hl1⟩ := HF.out _ _ _ hpost
  have HP1 := hide hpost
  have hb1 := hpost.1
  have HB1 : Hid (Below w.heap.size w w1) := HB0.out.trans (hb1.mono (by rw [size_alloc1]; omega))
  have HR1 := hide (HR.out.keep (hb1.block _ (by rw [size_alloc1]; omega)))
  have hz1 := hb1.size
  rw [size_alloc1] at hz1
  have HRa : Hid (RowI (w1.alloc (.cells (S z1) 31)) w.heap.size 34 z) := HR1.out.keep (Below.heap_alloc w1 _ _ HR1.out.lt)
  clear hpost hb1
  go_wp2_with (first | (refine wpList_storeR size8 rfl _ _ rfl w1.heap.size rfl z1 rfl hl1 (by rw [isRowB_alloc_at _ _ _ _ _ rfl]; rfl) _ (setRow_alloc_at _ _ _ _ _ rfl) ?_) | (refine wpList_load_mid rfl 31 _ rfl w.heap.size 0 rfl (rg.map (Value.int .i64)) _ (HRg.out _ HRa.out) Tryd.underlying31 rfl HS8.out ?_) | (refine wpList_load_mid rfl 32 _ rfl w.heap.size 8 rfl (mg.map (Value.int .i64)) _ (HRm.out _ HRa.out) Tryd.underlying32 rfl HS128.out ?_))
  refine (unhide H2 _).mono ?_
  intro e w2 hpost
  have he := DoPost.one HP1.out hpost
  subst he
  have hb2 := hpost.1
  have HB2 : Hid (Below w.heap.size w w2) := (HB1.out.alloc (by omega) _).trans (hb2.mono (by rw [size_alloc1]; omega))
  have hz2 := hb2.size
  rw [size_alloc1] at hz2
  have r1 : RowI w2 w1.heap.size 31 z1 := RowI.keep (show RowI (w1.alloc (.cells (S z1) 31)) w1.heap.size 31 z1 from _root_.Go.heap_alloc_new w1 _) (hb2.block _ (by rw [size_alloc1]; omega))
  have HRx : Hid (RowI (w2.alloc (.cells (S z1) 31)) w1.heap.size 31 z1) := r1.keep (Below.heap_alloc w2 _ _ r1.lt)
  have HRy : Hid (RowI (w2.alloc (.cells (S z1) 31)) w2.heap.size 31 z1) := _root_.Go.heap_alloc_new w2 _
  have heq := eq8 z1 z1 hl1 hl1
  rw [decide_eq_true rfl] at heq
  have HNm := hide (fun w' => num_any n1 w')
  clear hpost hb2 r1
  go_wp2_with (first | (refine wpList_storeR size8 rfl _ _ rfl w2.heap.size rfl z1 rfl hl1 (by rw [isRowB_alloc_at _ _ _ _ _ rfl]; rfl) _ (setRow_alloc_at _ _ _ _ _ rfl) ?_) | (refine wpList_loadR rfl Tryd.underlying31 size8 rfl _ rfl w1.heap.size rfl (HRx.out.isRow 8 hl1) _ HRx.out.rowD ?_) | (refine wpList_loadR rfl Tryd.underlying31 size8 rfl _ rfl w2.heap.size rfl (HRy.out.isRow 8 hl1) _ HRy.out.rowD ?_))
  refine (unhide HNm _).mono ?_
  rintro e w' ⟨rfl, hw'⟩
  obtain rfl := hw'.symm
  go_wp2_with fail
  go_ret
  exact ⟨ret_bool (by simp), HB2.out.alloc (by omega) _⟩

theorem bookP_new (w : World) (o : Obj) : BookP (w.heap.size + 1) [] (.slice none 0 0) ((w.alloc o).alloc (.cells #[.slice none 0 0, .slice none 0 0, .slice none 0 0] 27)) := by
  refine ⟨?_, fun j h1 h2 => ?_, fun j => ?_, fun cur hc => ?_, World.ownsRow_nil _ _ _ _, fun i v hi => by simp at hi⟩
  · rw [World.cell?_alloc_at (hn := by rw [size_alloc1])]; rfl
  · rw [World.cell?_alloc_at (hn := by rw [size_alloc1])]
    have : j = 0 ∨ j = 2 := by omega
    rcases this with rfl | rfl <;> rfl
  · rw [World.frozen?_alloc_at (hn := by rw [size_alloc1])]
  · have := _root_.Go.heap_alloc_new (w.alloc o) (.cells #[.slice none 0 0, .slice none 0 0, .slice none 0 0] 27)
    rw [size_alloc1] at this
    rw [this] at hc
    cases hc

set_option maxRecDepth 100000 in
set_option maxHeartbeats 2000000 in
theorem plans_any (s p : ByteArray) (z : List Int) (w : World) (ht : Tab w) (hz : z.length = 138) (hs : s.size ≤ maxLen) (hp : p.size ≤ maxLen) :
    Calls Tryd.prog 6 #[.string s, .string p, .agg (S z)] w fun e' w' => e' = .returned (.bool true) ∧ Below w.heap.size w w' := by
  have HT := hide ht
  have hpos := ht.pos
  clear ht
  have HR : Hid (RowI (w.alloc (.cells (S z) 34)) w.heap.size 34 z) := _root_.Go.heap_alloc_new w _
  obtain ⟨W, hW⟩ : ∃ W, W = (w.alloc (.cells (S z) 34)).alloc (.cells #[.slice none 0 0, .slice none 0 0, .slice none 0 0] 27) := ⟨_, rfl⟩
  have HW := hide hW
  have hbW : Below w.heap.size w W := by rw [hW]; exact ((Below.refl _ _).alloc (Nat.le_refl _) _).alloc (by rw [size_alloc1]; omega) _
  have HK0 : Hid (BookP (w.heap.size + 1) [] (.slice none 0 0) W) := by unfold Hid; rw [hW]; exact bookP_new w _
  have HRW : Hid (RowI W w.heap.size 34 z) := by unfold Hid; rw [hW]; exact HR.out.keep (Below.heap_alloc _ _ _ HR.out.lt)
  have HBW := hide hbW
  have H1 := hide (putsOf_any p (w.heap.size + 1) 0 [] _ W HK0.out rfl (by decide) hp)
  have hzW : W.heap.size = w.heap.size + 1 + 1 := by rw [hW, size_alloc1, size_alloc1]
  clear hbW hW
  go_enter Tryd.func6, Tryd.ntmps6
  go_wp2_with fail
  rw [← HW.out]
  refine (unhide H1).mono ?_
  rintro e w1 ⟨rfl, ⟨vs1, vi1, hk1, hl1⟩, hb1⟩
  have HB1 : Hid (Below w.heap.size w w1) := HBW.out.trans (hb1.mono (by omega))
  have r1 : RowI w1 w.heap.size 34 z := HRW.out.keep (hb1.block _ (by omega))
  have HK1 := hide hk1; have HL1 := hide hl1
  have H2 := hide (does_any p z w1 hz hp)
  have hz1 : w.heap.size < w1.heap.size := r1.lt
  have rI := r1.isRow 138 hz
  have rD := r1.rowD
  clear hk1 hl1 hb1 r1 H1
  go_wp2_with (refine wpList_load_S rfl _ rfl w.heap.size rfl rI _ rD ?_)
  refine (unhide H2).mono ?_
  rintro e w2 ⟨rfl, hb2⟩
  have HB2 : Hid (Below w.heap.size w w2) := HB1.out.trans (hb2.mono (by omega))
  have HK2 := hide (HK1.out.above hb2)
  have hz2 := hb2.size
  have H3 := hide (accepts_any s p w2 (HT.out.below hpos HB2.out) hs hp)
  clear hb2 H2 rI rD
  go_wp2_with fail
  refine (unhide H3).mono ?_
  rintro e w3 ⟨rfl, hb3⟩
  have HB3 : Hid (Below w.heap.size w w3) := HB2.out.trans (hb3.mono (by omega))
  have H4 := hide (putsOf_any p (w.heap.size + 1) 1 vs1 vi1 w3 (HK2.out.above hb3) HL1.out (by decide) hp)
  have hz3 := hb3.size
  clear hb3 H3
  go_wp2_with fail
  refine (unhide H4).mono ?_
  rintro e w4 ⟨rfl, ⟨vs2, vi2, hk4, hl4⟩, hb4⟩
  have HB4 : Hid (Below w.heap.size w w4) := HB3.out.trans (hb4.mono (by omega))
  have H5 := hide (looks_puts (w.heap.size + 1) vs2 vi2 w4 hk4 (by omega))
  have hz4 := hb4.size
  clear hk4 hl4 hb4 H4
  go_wp2_with fail
  refine (unhide H5).mono ?_
  rintro e w5 ⟨rfl, hb5⟩
  have HB5 : Hid (Below w.heap.size w w5) := HB4.out.trans (hb5.mono (by omega))
  clear hb5 H5
  go_wp2_with fail
  go_ret
  exact ⟨rfl, HB5.out⟩
end Go.Proofs.YtmmflekajbeamaaDoor

namespace Go.Proofs.YtmmflekajbeamaaDoor
open Go.RowKit

theorem wpList_load_midG {ops : Array Oper} {rest : List Oper} {op : Oper} {a : Act} {w : World} {Q : Exit → Act → World → Prop} (hw : Region.wanted op (yielded ops a.tmps) = true) (ty : TypeId) (x : Operand) (ho : op.op = .load ty x)
    (b o : Nat) (hx : a.eval x = .pointer (some ⟨b, o, none⟩)) (cs : List Value) (d : TypeDesc) (hc : w.rangeAt b o cs)
    (hu : Tryd.prog.underlying ty = some d) (hd : d.isRow = true) (hi : (Tryd.prog.info? ty).map (·.size) = some cs.length)
    (h : wpList Tryd.prog ops Q rest (a.put op.dst (.agg cs.toArray)) w) : wpList Tryd.prog ops Q (op :: rest) a w :=
  wpList_step fun K hK => by
    rw [if_pos hw]
    exact wp_load_mid ty x ho b o hx cs d hc hu hd hi (hK _ _ h)
theorem wpList_load_midZ {ops : Array Oper} {rest : List Oper} {op : Oper} {a : Act} {w : World} {Q : Exit → Act → World → Prop} (hw : Region.wanted op (yielded ops a.tmps) = true) (ty : TypeId) (x : Operand) (ho : op.op = .load ty x)
    (b o : Nat) (hx : a.eval x = .pointer (some ⟨b, o, none⟩)) (z : List Int) (d : TypeDesc) (hc : w.rangeAt b o (z.map (Value.int .i64)))
    (hu : Tryd.prog.underlying ty = some d) (hd : d.isRow = true) (hi : (Tryd.prog.info? ty).map (·.size) = some (z.map (Value.int .i64)).length)
    (h : wpList Tryd.prog ops Q rest (a.put op.dst (.agg (S z))) w) : wpList Tryd.prog ops Q (op :: rest) a w :=
  wpList_load_midG hw ty x ho b o hx _ d hc hu hd hi h
theorem eq128 (x : List Int) (hx : x.length = 128) (w : World) : (binOp .eql 32 (.agg (S x)) (.agg (S x))).run Tryd.prog w = .ok (.bool true) w := by
  obtain ⟨i, hi⟩ := infI1
  rw [run_eql_struct, run_equalIn_array w 9999 (S x) (S x) Tryd.underlying32 hi, csI1, eqItems_gen 9998 Tryd.underlying3 x x w _ (fun j hj => by have := List.mem_range.1 hj; omega), all_eq hx hx]
  simp
theorem mkZ_regs {regs mem : List Int} (pc st : Int) (hr : regs.length = 8) : ((mkZ regs mem pc st).drop 0).take 8 = regs := by
  unfold mkZ
  rw [List.drop_zero, List.take_append_of_le_length (by omega), List.take_of_length_le (by omega)]
theorem mkZ_mems {regs mem : List Int} (pc st : Int) (hr : regs.length = 8) (hm : mem.length = 128) : ((mkZ regs mem pc st).drop 8).take 128 = mem := by
  unfold mkZ
  rw [List.drop_append_of_le_length (by omega), List.drop_of_length_le (by omega), List.nil_append, List.take_append_of_le_length (by omega), List.take_of_length_le (by omega)]
theorem WL_allW {n : Nat} {l : List Int} (h : WL n l) : allW (gz l) n = true := by
  unfold allW
  rw [List.all_eq_true]
  intro i hi
  have hi' := List.mem_range.1 hi
  unfold isW
  rw [decide_eq_true_eq]
  refine h.2 _ ?_
  unfold gz
  rw [List.getD_eq_getElem?_getD, List.getElem?_eq_getElem (by rw [h.1]; exact hi')]
  exact List.getElem_mem _

set_option maxRecDepth 100000 in
set_option maxHeartbeats 4000000 in
theorem keepDoes_any (regs mem : List Int) (pc : Nat) (p : ByteArray) (w : World) (ht : Tab w) (hr : WL 8 regs) (hm : WL 128 mem) (hp : pc < 128) (hpl : p.size ≤ maxLen) (hpo : putsOK p)
    (hco : (comeS (blkPuts (bya (blkTxt mem pc)))).take 8 = (comeS (putL p (p.size / 8))).take 8) :
    Calls Tryd.prog 29 #[.agg (S (stZ regs mem pc 0)), .string (bya (blkTxt mem pc)), .string p] w fun e' w' => e' = .returned (.bool true) ∧ Below w.heap.size w w' := by
  have zz := zero34
  have z8 := zero8
  have HB := hide (blk_ok hm hp)
  have HPl := hide (fun w' => plains_any (bya (blkTxt mem pc)) w' (blk_ok hm hp))
  have HSt := hide (fun w' (hb : Below w.heap.size w w') => stepped_any regs mem pc w' (ht.below ht.pos hb) hr hm hp)
  have HDo := hide (fun w' => cribDo_any p regs mem w' hr.1 hm.1 hpl)
  have HRes := sound_do hr hm hp (putL_ok hpo) hco
  have hRM : okRM regs mem := ⟨WL_allW hr, WL_allW hm⟩
  have hWn := stZ_WL hr hm hp (nPl (bya (blkTxt mem pc)))
  have hl0 := stZ_len hr hm hp 0
  have hln := stZ_len hr hm hp (nPl (bya (blkTxt mem pc)))
  have q0 : ((stZ regs mem pc 0).drop 0).take 8 = regs := by rw [stZ_zero hp]; exact mkZ_regs _ _ hr.1
  have q1 : ((stZ regs mem pc 0).drop 8).take 128 = mem := by rw [stZ_zero hp]; exact mkZ_mems _ _ hr.1 hm.1
  have q2 : ((stZ regs mem pc (nPl (bya (blkTxt mem pc)))).drop 0).take 8 = ((blkPuts (bya (blkTxt mem pc))).take (nPl (bya (blkTxt mem pc)))).foldl (rD mem) regs := mkZ_regs _ _ hWn.1
  have q3 : ((stZ regs mem pc (nPl (bya (blkTxt mem pc)))).drop 8).take 128 = mem := mkZ_mems _ _ hWn.1 hm.1
  have hs7 : gz (stZ regs mem pc (nPl (bya (blkTxt mem pc)))) 137 = 0 := mkZ_st (pc := ((pc + nPl (bya (blkTxt mem pc)) : Nat) : Int) % 128) (st := 0) hWn.1 hm.1
  have hRl := hWn.1
  have hml := hm.1
  have hrl := hr.1
  generalize ((blkPuts (bya (blkTxt mem pc))).take (nPl (bya (blkTxt mem pc)))).foldl (rD mem) regs = R at *
  generalize nPl (bya (blkTxt mem pc)) = n at *
  generalize stZ regs mem pc 0 = z0 at *
  generalize stZ regs mem pc n = zn at *
  generalize bya (blkTxt mem pc) = s at *
  obtain ⟨W1, hW1⟩ : ∃ W1, W1 = w.alloc (.cells (S z0) 34) := ⟨_, rfl⟩
  have HW := hide hW1
  have r1 : RowI W1 w.heap.size 34 z0 := by unfold RowI; rw [hW1, _root_.Go.heap_alloc_new]
  have b1 : Below w.heap.size w W1 := by rw [hW1]; exact (Below.refl _ _).alloc (Nat.le_refl _) _
  have hz1 := r1.lt
  have rI := r1.isRow 138 hl0
  have rD' := r1.rowD
  have HR1 := hide r1; have HB1 := hide b1
  have HPo := hide hpo
  clear hr hm ht hco hW1 r1 b1 hWn hpo
  go_enter Tryd.func29, Tryd.ntmps29
  go_wp2_with fail
  refine (unhide HPl _).mono ?_
  rintro e w' ⟨rfl, hw⟩
  obtain rfl := hw.symm
  go_wp2_with (refine wpList_load_S rfl _ rfl w.heap.size rfl (by rw [← HW.out]; exact rI) (S z0) (by rw [← HW.out]; exact rD') ?_)
  rw [← HW.out]
  refine (unhide HSt _ HB1.out).mono ?_
  rintro e w2 ⟨rfl, hb2⟩
  have hz2 := hb2.size
  obtain ⟨W3, hW3⟩ : ∃ W3, W3 = w2.alloc (.cells (S zn) 34) := ⟨_, rfl⟩
  have HW3 := hide hW3
  have r3 : RowI W3 w2.heap.size 34 zn := by unfold RowI; rw [hW3, _root_.Go.heap_alloc_new]
  have r0 : RowI W3 w.heap.size 34 z0 := by rw [hW3]; exact (HR1.out.keep (hb2.block _ hz1)).keep (Below.heap_alloc w2 _ _ (by omega))
  have b3 : Below w.heap.size w W3 := by rw [hW3]; exact (HB1.out.trans (hb2.mono (by omega))).alloc (by omega) _
  have g0 := range_row r0 0 8 (by omega)
  have g1 := range_row r0 8 128 (by omega)
  rw [q0] at g0
  rw [q1] at g1
  have hz3 : w2.heap.size < W3.heap.size := r3.lt
  have s8 : (Tryd.prog.info? 31).map (·.size) = some (regs.map (Value.int .i64)).length := by rw [size8, List.length_map, hrl]
  have s128 : (Tryd.prog.info? 32).map (·.size) = some (mem.map (Value.int .i64)).length := by rw [size128, List.length_map, hml]
  have s8R : (Tryd.prog.info? 31).map (·.size) = some (R.map (Value.int .i64)).length := by rw [size8, List.length_map, hRl]
  have HS8 := hide s8; have HS128 := hide s128; have HS8R := hide s8R
  have HR0 := hide r0; have HR3 := hide r3; have HB3 := hide b3; have HG0 := hide g0; have HG1 := hide g1
  clear hb2 hW3 r3 r0 b3 g0 g1 s8 s128 s8R rI rD'
  go_wp2_with (first | (refine wpList_store_S rfl _ _ rfl w2.heap.size rfl zn rfl hln (by rw [isRowB_alloc_at _ _ _ _ _ rfl]; simp [S_size, zeroZ]) _ (setRow_alloc_at _ _ _ _ _ rfl) ?_) | (refine wpList_load_mid rfl 31 _ rfl w.heap.size 0 rfl (regs.map (Value.int .i64)) _ (by rw [← HW3.out]; exact HG0.out) Tryd.underlying31 rfl HS8.out ?_) | (refine wpList_load_mid rfl 32 _ rfl w.heap.size 8 rfl (mem.map (Value.int .i64)) _ (by rw [← HW3.out]; exact HG1.out) Tryd.underlying32 rfl HS128.out ?_))
  rw [← HW3.out]
  refine (unhide HDo _).mono ?_
  intro e w4 hpost
  obtain ⟨hb4, ⟨hno, _⟩ | ⟨_, hno, _⟩ | ⟨_, _, rfl⟩⟩ := hpost
  · exact absurd hRM hno
  · exact absurd HPo.out hno
  rw [HRes]
  have hz4 := hb4.size
  obtain ⟨W5, hW5⟩ : ∃ W5, W5 = w4.alloc (.cells (S R) 31) := ⟨_, rfl⟩
  have HW5 := hide hW5
  have t5 : RowI W5 w2.heap.size 34 zn := by rw [hW5]; exact (HR3.out.keep (hb4.block _ hz3)).keep (Below.heap_alloc w4 _ _ (by omega))
  have s5 : RowI W5 w.heap.size 34 z0 := by rw [hW5]; exact (HR0.out.keep (hb4.block _ (by omega))).keep (Below.heap_alloc w4 _ _ (by omega))
  have r5 : RowI W5 w4.heap.size 31 R := by unfold RowI; rw [hW5, _root_.Go.heap_alloc_new]
  have b5 : Below w.heap.size w W5 := by rw [hW5]; exact (HB3.out.trans (hb4.mono (by omega))).alloc (by omega) _
  have g0 := range_row r5 0 8 (by omega)
  have g1 := range_row t5 0 8 (by omega)
  have g2 := range_row t5 8 128 (by omega)
  have g3 := range_row s5 8 128 (by omega)
  rw [q1] at g3
  rw [q2] at g1
  rw [q3] at g2
  rw [List.drop_zero, List.take_of_length_le (by omega)] at g0
  have c7 := t5.cell 137 (by omega)
  rw [hs7, hW5] at c7
  have c7w := (HR3.out.keep (hb4.block _ hz3)).cell 137 (by omega)
  rw [hs7] at c7w
  have n24 : ¬ w2.heap.size = w4.heap.size := by omega
  have e8 := eq8 R R hRl hRl
  rw [decide_eq_true rfl] at e8
  have e128 := eq128 mem hml
  have HB5 := hide b5; have HG0' := hide g0; have HG1' := hide g1; have HG2 := hide g2; have HG3 := hide g3
  clear hb4 t5 s5 r5 b5 g0 g1 g2 g3
  go_wp2_with (first | (refine wpList_storeR size8 rfl _ _ rfl w4.heap.size rfl R rfl hRl (by rw [isRowB_alloc_at _ _ _ _ _ rfl]; rfl) _ (setRow_alloc_at _ _ _ _ _ rfl) ?_) | (refine wpList_load_midZ rfl 31 _ rfl w4.heap.size 0 rfl R _ (by rw [← hW5]; exact HG0'.out) Tryd.underlying31 rfl HS8R.out ?_) | (refine wpList_load_midZ rfl 31 _ rfl w2.heap.size 0 rfl R _ (by rw [← hW5]; exact HG1'.out) Tryd.underlying31 rfl HS8R.out ?_) | (refine wpList_load_midZ rfl 32 _ rfl w2.heap.size 8 rfl mem _ (by rw [← hW5]; exact HG2.out) Tryd.underlying32 rfl HS128.out ?_) | (refine wpList_load_midZ rfl 32 _ rfl w.heap.size 8 rfl mem _ (by rw [← hW5]; exact HG3.out) Tryd.underlying32 rfl HS128.out ?_))
  go_ret
  exact ⟨rfl, by rw [← hW5]; exact HB5.out⟩
end Go.Proofs.YtmmflekajbeamaaDoor

namespace Go.Proofs.YtmmflekajbeamaaDoor
open Go.RowKit

set_option maxRecDepth 100000 in
set_option maxHeartbeats 2000000 in
theorem refBlockAt_any (z mem : List Int) (pc : Nat) (w : World) (hl : z.length = 138) (hz : ∀ i, i < 128 → gz z (8 + i) = mem.getD i 0) (hm : ∀ i, 0 ≤ mem.getD i 0 ∧ mem.getD i 0 < 4294967296) (hpc : pc < 128) :
    Calls Tryd.prog 91 #[.agg (S z), .int .i64 (pc : Int)] w fun e' w' => e' = .returned (.string (bya (blkTxt mem pc))) ∧ Below w.heap.size w w' := by
  have hr : RowI (w.alloc (.cells (S z) 34)) w.heap.size 34 z := _root_.Go.heap_alloc_new w _
  have hb1 : Below w.heap.size w (w.alloc (.cells (S z) 34)) := (Below.refl w.heap.size w).alloc (Nat.le_refl _) _
  have HR := hide hr; have HB := hide hb1; have HM := hide hm; have HZ := hide hz
  have hpc' : (pc : Int) < 128 := by omega
  clear hr hb1 hm hz
  go_enter Tryd.func91, Tryd.ntmps91
  go_wp2_with fail
  go_loopw [5, 6] (fun t i wr => ∃ k : Nat, k ≤ 8 ∧ pc + k ≤ 128 ∧ i = .int .i64 k ∧ t = .string (bya (wdsT (blkW mem pc k))) ∧ Hid ((∀ q, q < k → plW (mem.getD (pc + q) 0) = true) ∧ RowI wr w.heap.size 34 z ∧ Below w.heap.size w wr)) (fun _ i _ => 8 - (intOf i).toNat)
  case atStart => exact ⟨0, Nat.zero_le _, by omega, rfl, rfl, fun q hq => by omega, HR.out, HB.out⟩
  case round =>
    obtain ⟨k, hk, hpk, rfl, rfl, HR2⟩ := hrel
    obtain ⟨hpl, hrow, hbl⟩ := HR2.out
    by_cases h8 : k < 8
    · have h8' : (k : Int) < 8 := by omega
      by_cases hlt : pc + k < 128
      · have hlt' : (pc : Int) + (k : Int) < 128 := by omega
        have hc := HM.out (pc + k)
        have hx0 : mem.getD (pc + k) 0 = (((mem.getD (pc + k) 0).toNat : Nat) : Int) := (Int.toNat_of_nonneg hc.1).symm
        have cm := hrow.cell (8 + (pc + k)) (by omega)
        rw [HZ.out (pc + k) hlt, hx0] at cm
        have HX : Hid (bya (wdsT (blkW mem pc k)) ++ bya (numB 4 (mem.getD (pc + k) 0).toNat) = bya (wdsT (blkW mem pc (k + 1)))) := by unfold Hid; rw [blkW_succ, wdsT_snoc, bya_app]
        have HPl := hide (fun w' => plain_any (mem.getD (pc + k) 0) w' hc.1 hc.2)
        have hplw : plB (fop (mem.getD (pc + k) 0)) (fa (mem.getD (pc + k) 0)) (fb (mem.getD (pc + k) 0)) (fc (mem.getD (pc + k) 0)) = plW (mem.getD (pc + k) 0) := rfl
        rw [hplw, hx0] at HPl
        have HNm := hide (fun w' => number_ref (mem.getD (pc + k) 0).toNat 4 w' (by decide) (by omega))
        have z1 : (bya (wdsT (blkW mem pc k))).size ≤ 64 := by rw [bya_size, wdsT_len, blkW_len]; omega
        have z2 : (bya (numB 4 (mem.getD (pc + k) 0).toNat)).size ≤ 64 := by rw [bya_size, numB_len]; decide
        have HEnd : Hid (plW (mem.getD (pc + k) 0) = false → blkTxt mem pc = wdsT (blkW mem pc (k + 1))) := fun hp => by
          unfold blkTxt
          rw [blkN_end mem pc (k + 1) (by omega) (by omega) (fun j hj => hpl j (by omega)) (by omega) (.inr (.inr (by rw [Nat.add_sub_cancel, hp]; decide)))]
        have HNx : Hid (plW (mem.getD (pc + k) 0) = true → ∀ q, q < k + 1 → plW (mem.getD (pc + q) 0) = true) := fun hp q hq => by
          by_cases hqk : q < k
          · exact hpl q hqk
          · obtain rfl : q = k := by omega
            exact hp
        rw [hx0] at HEnd HNx
        generalize bya (wdsT (blkW mem pc k)) = D1 at *
        generalize (mem.getD (pc + k) 0).toNat = x at *
        generalize bya (numB 4 x) = D2 at *
        have HRw := hide hrow; have HBl := hide hbl
        have hwz : w.heap.size < wr.heap.size := hrow.lt
        clear hc hx0 hplw hpl hrow hbl
        cases hq : plW (x : Int)
        · rw [hq] at HPl HEnd
          go_wp2_with fail
          refine (unhide HNm _).mono ?_
          rintro e w1 ⟨rfl, hb1⟩
          have HB1 : Hid (Below w.heap.size w w1) := HBl.out.trans (hb1.mono (by omega))
          clear hb1
          go_wp2_with fail
          refine (unhide HPl _).mono ?_
          rintro e w' ⟨rfl, hw⟩
          obtain rfl := hw.symm
          go_wp2_with fail
          go_ret
          refine ⟨?_, HB1.out⟩
          rw [HEnd.out (by first | trivial | rfl), ← HX.out]; rfl
        · rw [hq] at HPl HNx
          go_wp2_with fail
          refine (unhide HNm _).mono ?_
          rintro e w1 ⟨rfl, hb1⟩
          have HB1 : Hid (Below w.heap.size w w1) := HBl.out.trans (hb1.mono (by omega))
          have HR1 : Hid (RowI w1 w.heap.size 34 z) := HRw.out.keep (hb1.block _ hwz)
          clear hb1
          go_wp2_with fail
          refine (unhide HPl _).mono ?_
          rintro e w' ⟨rfl, hw⟩
          obtain rfl := hw.symm
          go_wp2_with fail
          refine ⟨⟨k + 1, by omega, by omega, by go_num, ?_, HNx.out (by first | trivial | rfl), HR1.out, HB1.out⟩, by simp [intOf]; omega⟩
          rw [HX.out]
      · have hlt' : ¬ (pc : Int) + (k : Int) < 128 := by omega
        have hlt'' : decide ((pc : Int) + (k : Int) < 128) = false := decide_eq_false hlt'
        have HEnd : Hid (blkTxt mem pc = wdsT (blkW mem pc k)) := by
          unfold Hid blkTxt
          rw [blkN_end mem pc k (by omega) hk (fun j hj => hpl j (by omega)) (by omega) (.inl (by omega))]
        have HBl := hide hbl
        clear hpl hrow hbl
        go_wp2_with fail
        go_ret
        refine ⟨?_, HBl.out⟩
        rw [HEnd.out]; rfl
    · have h8' : ¬ (k : Int) < 8 := by omega
      have HEnd : Hid (blkTxt mem pc = wdsT (blkW mem pc k)) := by
        unfold Hid blkTxt
        rw [blkN_end mem pc k (by omega) hk (fun j hj => hpl j (by omega)) (by omega) (.inr (.inl (by omega)))]
      have HBl := hide hbl
      clear hpl hrow hbl
      go_wp2_with fail
      go_ret
      refine ⟨?_, HBl.out⟩
      rw [HEnd.out]; rfl

theorem stB_mp {mem : List Int} {pc : Int} (hm : mem.length = 128) : stB (mkZ (List.replicate 8 0) mem pc 0) = true ↔ inM mem pc := by
  have hr : (List.replicate 8 (0 : Int)).length = 8 := by simp
  unfold stB inM
  rw [Bool.and_eq_true, Bool.and_eq_true]
  have e1 : regsB (mkZ (List.replicate 8 0) mem pc 0) = true := by
    unfold regsB
    rw [List.all_eq_true]
    intro i hi
    rw [mkZ_reg hr (List.mem_range.1 hi), List.getD_eq_getElem?_getD, List.getElem?_replicate, if_pos (List.mem_range.1 hi)]
    rfl
  have e2 : memB (mkZ (List.replicate 8 0) mem pc 0) = allW (gz mem) 128 := by
    unfold memB allW
    rw [Bool.eq_iff_iff, List.all_eq_true, List.all_eq_true]
    constructor
    · intro h i hi
      have := h i hi
      rw [mkZ_mem hr hm (List.mem_range.1 hi)] at this
      exact this
    · intro h i hi
      rw [mkZ_mem hr hm (List.mem_range.1 hi)]
      exact h i hi
  have e3 : pcB (mkZ (List.replicate 8 0) mem pc 0) = true ↔ 0 ≤ pc ∧ pc < 128 := by
    unfold pcB
    rw [mkZ_pc hr hm, mkZ_st hr hm]
    simp
  rw [e1, e2, e3]
  simp

set_option maxRecDepth 100000 in
set_option maxHeartbeats 2000000 in
theorem refBlock_any (mem : List Int) (pc : Int) (w : World) (hl : mem.length = 128) :
    Calls Tryd.prog 55 #[.agg (S mem), .int .i64 pc] w (BlkPost mem pc w) := by
  have hrl : (List.replicate 8 (0 : Int)).length = 8 := by simp
  have hst := stB_mp (pc := pc) hl
  have hZm : ∀ i, i < 128 → gz (mkZ (List.replicate 8 0) mem pc 0) (8 + i) = mem.getD i 0 := fun i hi => mkZ_mem hrl hl hi
  have hZl : (mkZ (List.replicate 8 0) mem pc 0).length = 138 := mkZ_len hrl hl
  have HBd := hide (build_mp mem pc hl)
  generalize mkZ (List.replicate 8 0) mem pc 0 = z at *
  obtain ⟨W1, hW1⟩ : ∃ W1, W1 = w.alloc (.cells (S mem) 32) := ⟨_, rfl⟩
  have HW := hide hW1
  have z34 := zero34
  have hz1 : W1.heap.size = w.heap.size + 1 := by rw [hW1, size_alloc1]
  have r0 : RowI W1 w.heap.size 32 mem := by unfold RowI; rw [hW1, _root_.Go.heap_alloc_new]
  have r1 : RowI (W1.alloc (.cells (S zeroZ) 34)) (w.heap.size + 1) 34 zeroZ := by
    unfold RowI
    have := _root_.Go.heap_alloc_new W1 (.cells (S zeroZ) 34)
    rw [hz1] at this
    exact this
  obtain ⟨W2, hW2⟩ : ∃ W2, W2 = (W1.alloc (.cells (S zeroZ) 34)).setRow (w.heap.size + 1) (S z) := ⟨_, rfl⟩
  have r2 : RowI W2 (w.heap.size + 1) 34 z := by rw [hW2]; exact r1.setRow z
  have hb1 : Below w.heap.size w W1 := by rw [hW1]; exact (Below.refl _ _).alloc (Nat.le_refl _) _
  have hb2 : Below w.heap.size w W2 := by rw [hW2]; exact below_setRow (hb1.alloc (by omega) _) (by omega) _
  have HW2 := hide hW2; have HR0 := hide r0; have HR1 := hide r1; have HR2 := hide r2; have HB2 := hide hb2
  have HRt := hide (right_any z W2 hZl)
  have hz2 : w.heap.size + 1 < W2.heap.size := r2.lt
  clear r0 r1 r2 hb1 hb2 hW1 hW2
  by_cases hok : inM mem pc
  · rw [hst.2 hok] at HRt
    have HOK := hide hok
    obtain ⟨n, rfl⟩ : ∃ n : Nat, pc = (n : Int) := ⟨pc.toNat, by have := hok.2.1; omega⟩
    have HAt := hide (fun w' => refBlockAt_any z mem n w' hZl hZm (inM_bd hl hok.1) (by have := hok.2.2; omega))
    have HFin : Hid (∀ w', Below W2.heap.size W2 w' → BlkPost mem (n : Int) w (.returned (.tuple #[.string (bya (blkTxt mem n)), .int .i64 0])) w') := fun w' hb => ⟨HB2.out.trans (hb.mono HB2.out.size), .inl ⟨HOK.out, by rw [Int.toNat_natCast]⟩⟩
    clear hst hok hZm
    go_enter Tryd.func55, Tryd.ntmps55
    go_wp2_with (first | (refine wpList_loadR rfl Tryd.underlying32 size128 rfl _ rfl w.heap.size rfl (by rw [← HW.out]; exact HR0.out.isRow 128 hl) (S mem) (by rw [← HW.out]; exact HR0.out.rowD) ?_) | (refine wpList_buildR rfl 34 1 2 _ _ rfl (.agg (S mem)) (.int .i64 (n : Int)) _ rfl rfl (HBd.out _) ?_) | (refine wpList_storeR size34 rfl _ _ rfl (w.heap.size + 1) rfl z rfl hZl (by rw [← HW.out]; exact HR1.out.isRow 138 (by simp [zeroZ])) W2 (by rw [← HW.out]; exact HW2.out.symm) ?_) | (refine wpList_loadR rfl Tryd.underlying34 size34 rfl _ rfl (w.heap.size + 1) rfl (HR2.out.isRow 138 hZl) (S z) HR2.out.rowD ?_))
    refine (unhide HRt).mono ?_
    rintro e w1 ⟨rfl, hb1⟩
    have HB1 := hide hb1
    have HR3 := hide (HR2.out.keep (hb1.block _ hz2))
    clear hb1
    go_wp2_with (refine wpList_loadR rfl Tryd.underlying34 size34 rfl _ rfl (w.heap.size + 1) rfl (HR3.out.isRow 138 hZl) (S z) HR3.out.rowD ?_)
    refine (unhide HAt _).mono ?_
    rintro e w2 ⟨rfl, hb2⟩
    have HB3 : Hid (Below W2.heap.size W2 w2) := HB1.out.trans (hb2.mono HB1.out.size)
    clear hb2
    go_wp2_with fail
    go_ret2
    exact HFin.out _ HB3.out
  · have hf : stB z = false := by
      cases hq : stB z
      · rfl
      · exact absurd (hst.1 hq) hok
    rw [hf] at HRt
    have HOK := hide hok
    have HFin : Hid (∀ w', Below W2.heap.size W2 w' → BlkPost mem pc w (.returned (.tuple #[.string (bya []), .int .i64 8])) w') := fun w' hb => ⟨HB2.out.trans (hb.mono HB2.out.size), .inr ⟨HOK.out, rfl⟩⟩
    clear hst hok hZm hf
    go_enter Tryd.func55, Tryd.ntmps55
    go_wp2_with (first | (refine wpList_loadR rfl Tryd.underlying32 size128 rfl _ rfl w.heap.size rfl (by rw [← HW.out]; exact HR0.out.isRow 128 hl) (S mem) (by rw [← HW.out]; exact HR0.out.rowD) ?_) | (refine wpList_buildR rfl 34 1 2 _ _ rfl (.agg (S mem)) (.int .i64 pc) _ rfl rfl (HBd.out _) ?_) | (refine wpList_storeR size34 rfl _ _ rfl (w.heap.size + 1) rfl z rfl hZl (by rw [← HW.out]; exact HR1.out.isRow 138 (by simp [zeroZ])) W2 (by rw [← HW.out]; exact HW2.out.symm) ?_) | (refine wpList_loadR rfl Tryd.underlying34 size34 rfl _ rfl (w.heap.size + 1) rfl (HR2.out.isRow 138 hZl) (S z) HR2.out.rowD ?_))
    refine (unhide HRt).mono ?_
    rintro e w1 ⟨rfl, hb1⟩
    have HB1 := hide hb1
    clear hb1
    go_wp2_with fail
    go_ret2
    exact HFin.out _ HB1.out
end Go.Proofs.YtmmflekajbeamaaDoor
