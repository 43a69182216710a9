/-
  THE LAW Plans, walked: it answers true, for every two texts and every state.
  Translates: Block through the door, and the law of it (crib.Block, criblaw.blocks).
  THE LAW Translates, walked: it answers true, for every text, every state and every number.
  The table of instructions, as the card's condition tells it, is the table that the walks read; and the program's own start-up meets that condition. Shared by the cards.
  A state that came in is 138 numbers.
-/
import Derived.Test.YtmmflekajbeamaaDoorT29
import Derived.Test.YtmmflekajbeamaaDoorT28
import Derived.Test.YtmmflekajbeamaaDoorT30
import Derived.Deep.MidRow
import Derived.Test.YtmmflekajbeamaaDoorT22
import Derived.Test.YtmmflekajbeamaaDoorT24
import Derived.Test.YtmmflekajbeamaaDoorT02
import Derived.Test.YtmmflekajbeamaaDoorCards
import Derived.Test.YtmmflekajbeamaaDoorTie
import Derived.ProofKit
import Derived.LaidMore
import Derived.OpenShut
import Derived.Stop.Joined
import Derived.Deep.Strs
import Derived.SevenTiedAt
import Derived.ChangeMaps5
namespace Go.Proofs.YtmmflekajbeamaaDoor
open Go.RowKit

set_option maxRecDepth 100000 in
set_option maxHeartbeats 2000000 in
theorem accepts_any (s p : ByteArray) (w : World) (ht : Tab w) (hs : s.size ≤ maxLen) (hp : p.size ≤ maxLen) :
    Calls Tryd.prog 20 #[.string s, .string p] w fun e' w' => e' = .returned (.bool true) ∧ Below w.heap.size w w' := by
  have H1 := hide (cribAccept_any s p w ht hs hp)
  have H2 := hide (fun w' => refAccept_any s p w' hs hp)
  clear ht
  go_enter Tryd.func20, Tryd.ntmps20
  go_wp2_with fail
  refine (unhide H1).mono ?_
  rintro e w1 ⟨hb1, n, rfl, hn⟩
  have HB1 := hide hb1; have HN := hide hn
  have hz1 := hb1.size
  clear hb1 hn H1
  go_wp2_with fail
  refine (unhide H2 _).mono ?_
  rintro e w2 ⟨hb2, m, rfl, hm⟩
  obtain rfl := HN.out.one hm
  have HB2 : Hid (Below w.heap.size w w2) := HB1.out.trans (hb2.mono hz1)
  have HNm := hide (fun w' => num_any n w')
  clear hb2 hm H2
  go_wp2_with fail
  refine (unhide HNm _).mono ?_
  rintro e w' ⟨rfl, hw'⟩
  obtain rfl := hw'.symm
  go_wp2_with fail
  go_ret
  exact ⟨ret_bool (by simp), HB2.out⟩

theorem DoPost.one {p : ByteArray} {regs mem : List Int} {w1 w2 w1' w2' : World} {e1 e2 : Ending} (h1 : DoPost p regs mem w1 e1 w1') (h2 : DoPost p regs mem w2 e2 w2') : e1 = e2 := by
  obtain ⟨_, ⟨a, rfl⟩ | ⟨a, b, rfl⟩ | ⟨a, b, rfl⟩⟩ := h1 <;> obtain ⟨_, ⟨c, rfl⟩ | ⟨c, d, rfl⟩ | ⟨c, d, rfl⟩⟩ := h2
  all_goals first | rfl | exact absurd a c | exact absurd c a | exact absurd b d | exact absurd d b
theorem DoPost.form {p : ByteArray} {regs mem : List Int} {w w' : World} {e : Ending} (hr : regs.length = 8) (hm : mem.length = 128) (h : DoPost p regs mem w e w') : ∃ z n, e = .returned (.tuple #[.agg (S z), .int .i64 n]) ∧ z.length = 8 := by
  obtain ⟨hb, ⟨h1, rfl⟩ | ⟨h1, h2, rfl⟩ | ⟨h1, h2, rfl⟩⟩ := h
  · exact ⟨_, _, rfl, zr_len 8⟩
  · exact ⟨_, _, rfl, zr_len 8⟩
  · refine ⟨_, _, rfl, ?_⟩
    have hl : ((putL p (p.size / 8)).foldl (stD mem) (begD regs)).length = 16 := by
      have := (WL.fold (allW_WL h1.2 hm) (putL_ok h2) (putL p (p.size / 8)).length (begD regs) (Nat.le_refl _) (WL.beg (allW_WL h1.1 hr))).1
      rw [List.take_length] at this
      exact this
    unfold doL
    rw [List.length_take, hl]
    rfl
theorem range_row {w : World} {g : Nat} {t : TypeId} {z : List Int} (h : RowI w g t z) (o k : Nat) (ho : o + k ≤ z.length) : w.rangeAt g o (((z.drop o).take k).map (Value.int .i64)) := by
  intro j v hj
  have hlt := (List.getElem?_eq_some_iff.1 hj).1
  simp only [List.length_map, List.length_take, List.length_drop] at hlt
  rw [h.cell (o + j) (by omega)]
  rw [List.getElem?_map, List.getElem?_take, if_pos (by omega), List.getElem?_drop] at hj
  unfold gz
  rw [List.getD_eq_getElem?_getD]
  cases hq : z[o + j]? with
  | none => rw [hq] at hj; cases hj
  | some y => rw [hq] at hj; exact hj

set_option maxRecDepth 100000 in
set_option maxHeartbeats 2000000 in
theorem does_any (p : ByteArray) (z : List Int) (w : World) (hz : z.length = 138) (hp : p.size ≤ maxLen) :
    Calls Tryd.prog 19 #[.string p, .agg (S z)] w fun e' w' => e' = .returned (.bool true) ∧ Below w.heap.size w w' := by
  have z8 := zero8
  have hr : ((z.drop 0).take 8).length = 8 := by simp [hz]
  have hm : ((z.drop 8).take 128).length = 128 := by simp [hz]
  have H1 := hide (fun w' => cribDo_any p ((z.drop 0).take 8) ((z.drop 8).take 128) w' hr hm hp)
  have H2 := hide (fun w' => refDo_any p ((z.drop 0).take 8) ((z.drop 8).take 128) w' hr hm hp)
  have HR : Hid (RowI (w.alloc (.cells (S z) 34)) w.heap.size 34 z) := _root_.Go.heap_alloc_new w _
  have HB0 := hide ((Below.refl w.heap.size w).alloc (Nat.le_refl _) (.cells (S z) 34))
  have s8 : (Tryd.prog.info? 31).map (·.size) = some (((z.drop 0).take 8).map (Value.int .i64)).length := by rw [size8, List.length_map, hr]
  have s128 : (Tryd.prog.info? 32).map (·.size) = some (((z.drop 8).take 128).map (Value.int .i64)).length := by rw [size128, List.length_map, hm]
  have HS8 := hide s8; have HS128 := hide s128
  clear s8 s128
  have HF := hide (fun w1 w1' e => DoPost.form (p := p) (w := w1) (w' := w1') (e := e) hr hm)
  have HRg := hide (fun w' (h : RowI w' w.heap.size 34 z) => range_row h 0 8 (by omega))
  have HRm := hide (fun w' (h : RowI w' w.heap.size 34 z) => range_row h 8 128 (by omega))
  clear hr hm
  generalize hrg : (z.drop 0).take 8 = rg at *
  generalize hmg : (z.drop 8).take 128 = mg at *
  clear hrg hmg
  go_enter Tryd.func19, Tryd.ntmps19
  go_wp2_with (first | (refine wpList_load_mid rfl 31 _ rfl w.heap.size 0 rfl (rg.map (Value.int .i64)) _ (HRg.out _ HR.out) Tryd.underlying31 rfl HS8.out ?_) | (refine wpList_load_mid rfl 32 _ rfl w.heap.size 8 rfl (mg.map (Value.int .i64)) _ (HRm.out _ HR.out) Tryd.underlying32 rfl HS128.out ?_))
  refine (unhide H1 _).mono ?_
  intro e w1 hpost
  obtain ⟨z1, n1, rfl, hl1⟩ := HF.out _ _ _ hpost
  have HP1 := hide hpost
  have hb1 := hpost.1
  have HB1 : Hid (Below w.heap.size w w1) := HB0.out.trans (hb1.mono (by rw [size_alloc1]; omega))
  have HR1 := hide (HR.out.keep (hb1.block _ (by rw [size_alloc1]; omega)))
  have hz1 := hb1.size
  rw [size_alloc1] at hz1
  have HRa : Hid (RowI (w1.alloc (.cells (S z1) 31)) w.heap.size 34 z) := HR1.out.keep (Below.heap_alloc w1 _ _ HR1.out.lt)
  clear hpost hb1
  go_wp2_with (first | (refine wpList_storeR size8 rfl _ _ rfl w1.heap.size rfl z1 rfl hl1 (by rw [isRowB_alloc_at _ _ _ _ _ rfl]; rfl) _ (setRow_alloc_at _ _ _ _ _ rfl) ?_) | (refine wpList_load_mid rfl 31 _ rfl w.heap.size 0 rfl (rg.map (Value.int .i64)) _ (HRg.out _ HRa.out) Tryd.underlying31 rfl HS8.out ?_) | (refine wpList_load_mid rfl 32 _ rfl w.heap.size 8 rfl (mg.map (Value.int .i64)) _ (HRm.out _ HRa.out) Tryd.underlying32 rfl HS128.out ?_))
  refine (unhide H2 _).mono ?_
  intro e w2 hpost
  have he := DoPost.one HP1.out hpost
  subst he
  have hb2 := hpost.1
  have HB2 : Hid (Below w.heap.size w w2) := (HB1.out.alloc (by omega) _).trans (hb2.mono (by rw [size_alloc1]; omega))
  have hz2 := hb2.size
  rw [size_alloc1] at hz2
  have r1 : RowI w2 w1.heap.size 31 z1 := RowI.keep (show RowI (w1.alloc (.cells (S z1) 31)) w1.heap.size 31 z1 from _root_.Go.heap_alloc_new w1 _) (hb2.block _ (by rw [size_alloc1]; omega))
  have HRx : Hid (RowI (w2.alloc (.cells (S z1) 31)) w1.heap.size 31 z1) := r1.keep (Below.heap_alloc w2 _ _ r1.lt)
  have HRy : Hid (RowI (w2.alloc (.cells (S z1) 31)) w2.heap.size 31 z1) := _root_.Go.heap_alloc_new w2 _
  have heq := eq8 z1 z1 hl1 hl1
  rw [decide_eq_true rfl] at heq
  have HNm := hide (fun w' => num_any n1 w')
  clear hpost hb2 r1
  go_wp2_with (first | (refine wpList_storeR size8 rfl _ _ rfl w2.heap.size rfl z1 rfl hl1 (by rw [isRowB_alloc_at _ _ _ _ _ rfl]; rfl) _ (setRow_alloc_at _ _ _ _ _ rfl) ?_) | (refine wpList_loadR rfl Tryd.underlying31 size8 rfl _ rfl w1.heap.size rfl (HRx.out.isRow 8 hl1) _ HRx.out.rowD ?_) | (refine wpList_loadR rfl Tryd.underlying31 size8 rfl _ rfl w2.heap.size rfl (HRy.out.isRow 8 hl1) _ HRy.out.rowD ?_))
  refine (unhide HNm _).mono ?_
  rintro e w' ⟨rfl, hw'⟩
  obtain rfl := hw'.symm
  go_wp2_with fail
  go_ret
  exact ⟨ret_bool (by simp), HB2.out.alloc (by omega) _⟩

theorem bookP_new (w : World) (o : Obj) : BookP (w.heap.size + 1) [] (.slice none 0 0) ((w.alloc o).alloc (.cells #[.slice none 0 0, .slice none 0 0, .slice none 0 0] 27)) := by
  refine ⟨?_, fun j h1 h2 => ?_, fun j => ?_, fun cur hc => ?_, World.ownsRow_nil _ _ _ _, fun i v hi => by simp at hi⟩
  · rw [World.cell?_alloc_at (hn := by rw [size_alloc1])]; rfl
  · rw [World.cell?_alloc_at (hn := by rw [size_alloc1])]
    have : j = 0 ∨ j = 2 := by omega
    rcases this with rfl | rfl <;> rfl
  · rw [World.frozen?_alloc_at (hn := by rw [size_alloc1])]
  · have := _root_.Go.heap_alloc_new (w.alloc o) (.cells #[.slice none 0 0, .slice none 0 0, .slice none 0 0] 27)
    rw [size_alloc1] at this
    rw [this] at hc
    cases hc

set_option maxRecDepth 100000 in
set_option maxHeartbeats 2000000 in
theorem plans_any (s p : ByteArray) (z : List Int) (w : World) (ht : Tab w) (hz : z.length = 138) (hs : s.size ≤ maxLen) (hp : p.size ≤ maxLen) :
    Calls Tryd.prog 6 #[.string s, .string p, .agg (S z)] w fun e' w' => e' = .returned (.bool true) ∧ Below w.heap.size w w' := by
  have HT := hide ht
  have hpos := ht.pos
  clear ht
  have HR : Hid (RowI (w.alloc (.cells (S z) 34)) w.heap.size 34 z) := _root_.Go.heap_alloc_new w _
  obtain ⟨W, hW⟩ : ∃ W, W = (w.alloc (.cells (S z) 34)).alloc (.cells #[.slice none 0 0, .slice none 0 0, .slice none 0 0] 27) := ⟨_, rfl⟩
  have HW := hide hW
  have hbW : Below w.heap.size w W := by rw [hW]; exact ((Below.refl _ _).alloc (Nat.le_refl _) _).alloc (by rw [size_alloc1]; omega) _
  have HK0 : Hid (BookP (w.heap.size + 1) [] (.slice none 0 0) W) := by unfold Hid; rw [hW]; exact bookP_new w _
  have HRW : Hid (RowI W w.heap.size 34 z) := by unfold Hid; rw [hW]; exact HR.out.keep (Below.heap_alloc _ _ _ HR.out.lt)
  have HBW := hide hbW
  have H1 := hide (putsOf_any p (w.heap.size + 1) 0 [] _ W HK0.out rfl (by decide) hp)
  have hzW : W.heap.size = w.heap.size + 1 + 1 := by rw [hW, size_alloc1, size_alloc1]
  clear hbW hW
  go_enter Tryd.func6, Tryd.ntmps6
  go_wp2_with fail
  rw [← HW.out]
  refine (unhide H1).mono ?_
  rintro e w1 ⟨rfl, ⟨vs1, vi1, hk1, hl1⟩, hb1⟩
  have HB1 : Hid (Below w.heap.size w w1) := HBW.out.trans (hb1.mono (by omega))
  have r1 : RowI w1 w.heap.size 34 z := HRW.out.keep (hb1.block _ (by omega))
  have HK1 := hide hk1; have HL1 := hide hl1
  have H2 := hide (does_any p z w1 hz hp)
  have hz1 : w.heap.size < w1.heap.size := r1.lt
  have rI := r1.isRow 138 hz
  have rD := r1.rowD
  clear hk1 hl1 hb1 r1 H1
  go_wp2_with (refine wpList_load_S rfl _ rfl w.heap.size rfl rI _ rD ?_)
  refine (unhide H2).mono ?_
  rintro e w2 ⟨rfl, hb2⟩
  have HB2 : Hid (Below w.heap.size w w2) := HB1.out.trans (hb2.mono (by omega))
  have HK2 := hide (HK1.out.above hb2)
  have hz2 := hb2.size
  have H3 := hide (accepts_any s p w2 (HT.out.below hpos HB2.out) hs hp)
  clear hb2 H2 rI rD
  go_wp2_with fail
  refine (unhide H3).mono ?_
  rintro e w3 ⟨rfl, hb3⟩
  have HB3 : Hid (Below w.heap.size w w3) := HB2.out.trans (hb3.mono (by omega))
  have H4 := hide (putsOf_any p (w.heap.size + 1) 1 vs1 vi1 w3 (HK2.out.above hb3) HL1.out (by decide) hp)
  have hz3 := hb3.size
  clear hb3 H3
  go_wp2_with fail
  refine (unhide H4).mono ?_
  rintro e w4 ⟨rfl, ⟨vs2, vi2, hk4, hl4⟩, hb4⟩
  have HB4 : Hid (Below w.heap.size w w4) := HB3.out.trans (hb4.mono (by omega))
  have H5 := hide (looks_puts (w.heap.size + 1) vs2 vi2 w4 hk4 (by omega))
  have hz4 := hb4.size
  clear hk4 hl4 hb4 H4
  go_wp2_with fail
  refine (unhide H5).mono ?_
  rintro e w5 ⟨rfl, hb5⟩
  have HB5 : Hid (Below w.heap.size w w5) := HB4.out.trans (hb5.mono (by omega))
  clear hb5 H5
  go_wp2_with fail
  go_ret
  exact ⟨rfl, HB5.out⟩
end Go.Proofs.YtmmflekajbeamaaDoor

namespace Go.Proofs.YtmmflekajbeamaaDoor
open Go.RowKit

theorem BlkPost.form {mem : List Int} {pc : Int} {w w' : World} {e : Ending} (h : BlkPost mem pc w e w') : ∃ D n, e = .returned (.tuple #[.string D, .int .i64 n]) := by
  obtain ⟨_, ⟨_, rfl⟩ | ⟨_, rfl⟩⟩ := h
  · exact ⟨_, _, rfl⟩
  · exact ⟨_, _, rfl⟩
theorem BlkPost.one {mem : List Int} {pc : Int} {w1 w2 w1' w2' : World} {e1 e2 : Ending} (h1 : BlkPost mem pc w1 e1 w1') (h2 : BlkPost mem pc w2 e2 w2') : e1 = e2 := by
  obtain ⟨_, ⟨a, rfl⟩ | ⟨a, rfl⟩⟩ := h1 <;> obtain ⟨_, ⟨c, rfl⟩ | ⟨c, rfl⟩⟩ := h2
  all_goals first | rfl | exact absurd a c | exact absurd c a

set_option maxRecDepth 100000 in
set_option maxHeartbeats 2000000 in
theorem cribBlock_any (mem : List Int) (pc : Int) (w : World) (ht : Tab w) (hl : mem.length = 128) :
    Calls Tryd.prog 25 #[.agg (S mem), .int .i64 pc] w (BlkPost mem pc w) := by
  obtain ⟨W0, hW0⟩ : ∃ W0, W0 = w.alloc (.cells (S mem) 32) := ⟨_, rfl⟩
  have HW := hide hW0
  have hb0 : Below w.heap.size w W0 := by rw [hW0]; exact (Below.refl _ _).alloc (Nat.le_refl _) _
  have r0 : RowI W0 w.heap.size 32 mem := by unfold RowI; rw [hW0, _root_.Go.heap_alloc_new]
  have HR0 := hide r0; have HB0 := hide hb0
  have HC := hide (block_any mem pc W0 (ht.below ht.pos hb0) hl)
  clear r0 hb0 hW0
  go_enter Tryd.func25, Tryd.ntmps25
  go_wp2_with (refine wpList_loadR rfl Tryd.underlying32 size128 rfl _ rfl w.heap.size rfl (by rw [← HW.out]; exact HR0.out.isRow 128 hl) (S mem) (by rw [← HW.out]; exact HR0.out.rowD) ?_)
  rw [← HW.out]
  refine (unhide HC).mono ?_
  intro e w1 hpost
  obtain ⟨D, n, rfl⟩ := hpost.form
  have HP := hide (hpost.up HB0.out)
  clear hpost
  go_wp2_with fail
  go_ret2
  exact HP.out

set_option maxRecDepth 100000 in
set_option maxHeartbeats 2000000 in
theorem blocks_any (mem : List Int) (pc : Int) (w : World) (ht : Tab w) (hl : mem.length = 128) :
    Calls Tryd.prog 21 #[.agg (S mem), .int .i64 pc] w fun e' w' => e' = .returned (.bool true) ∧ Below w.heap.size w w' := by
  obtain ⟨W0, hW0⟩ : ∃ W0, W0 = w.alloc (.cells (S mem) 32) := ⟨_, rfl⟩
  have HW := hide hW0
  have hb0 : Below w.heap.size w W0 := by rw [hW0]; exact (Below.refl _ _).alloc (Nat.le_refl _) _
  have r0 : RowI W0 w.heap.size 32 mem := by unfold RowI; rw [hW0, _root_.Go.heap_alloc_new]
  have HR0 := hide r0; have HB0 := hide hb0
  have hlt0 := r0.lt
  have H1 := hide (cribBlock_any mem pc W0 (ht.below ht.pos hb0) hl)
  have H2 := hide (fun w' => refBlock_any mem pc w' hl)
  clear r0 hb0 hW0 ht
  go_enter Tryd.func21, Tryd.ntmps21
  go_wp2_with (refine wpList_loadR rfl Tryd.underlying32 size128 rfl _ rfl w.heap.size rfl (by rw [← HW.out]; exact HR0.out.isRow 128 hl) (S mem) (by rw [← HW.out]; exact HR0.out.rowD) ?_)
  rw [← HW.out]
  refine (unhide H1).mono ?_
  intro e w1 hpost
  obtain ⟨D, n, rfl⟩ := hpost.form
  have HP1 := hide hpost
  have HB1 : Hid (Below w.heap.size w w1) := HB0.out.trans (hpost.1.mono HB0.out.size)
  have HR1 := hide (HR0.out.keep (hpost.1.block _ hlt0))
  clear hpost H1
  go_wp2_with (refine wpList_loadR rfl Tryd.underlying32 size128 rfl _ rfl w.heap.size rfl (HR1.out.isRow 128 hl) (S mem) HR1.out.rowD ?_)
  refine (unhide H2 _).mono ?_
  intro e w2 hpost
  have he := BlkPost.one HP1.out hpost
  subst he
  have HB2 : Hid (Below w.heap.size w w2) := HB1.out.trans (hpost.1.mono HB1.out.size)
  have HNm := hide (fun w' => num_any n w')
  clear hpost H2 HP1
  go_wp2_with fail
  refine (unhide HNm _).mono ?_
  rintro e w' ⟨rfl, hw'⟩
  obtain rfl := hw'.symm
  go_wp2_with fail
  go_ret
  exact ⟨ret_bool (by simp), HB2.out⟩
end Go.Proofs.YtmmflekajbeamaaDoor

namespace Go.Proofs.YtmmflekajbeamaaDoor
open Go.RowKit

set_option maxRecDepth 100000 in
set_option maxHeartbeats 2000000 in
theorem translates_one (s : ByteArray) (w : World) (ht : Tab w) (hs : s.size ≤ maxLen) :
    Calls Tryd.prog 22 #[.string s] w fun e' w' => e' = .returned (.bool true) ∧ Below w.heap.size w w' := by
  have H1 := hide (cribTranslate_any s w ht hs)
  have H2 := hide (fun w' => refTranslate_any s w' hs)
  clear ht
  go_enter Tryd.func22, Tryd.ntmps22
  go_wp2_with fail
  refine (unhide H1).mono ?_
  intro e w1 hpost
  obtain ⟨D, n, rfl⟩ := hpost.form
  have HP1 := hide hpost
  have HB1 := hide hpost.1
  clear hpost H1
  go_wp2_with fail
  refine (unhide H2 _).mono ?_
  intro e w2 hpost
  have he := TrPost.one HP1.out hpost
  subst he
  have HB2 : Hid (Below w.heap.size w w2) := HB1.out.trans (hpost.1.mono HB1.out.size)
  have HNm := hide (fun w' => num_any n w')
  clear hpost H2 HP1
  go_wp2_with fail
  refine (unhide HNm _).mono ?_
  rintro e w' ⟨rfl, hw'⟩
  obtain rfl := hw'.symm
  go_wp2_with fail
  go_ret
  exact ⟨ret_bool (by simp), HB2.out⟩

set_option maxRecDepth 100000 in
set_option maxHeartbeats 2000000 in
theorem translates_any (s : ByteArray) (z : List Int) (pc : Int) (w : World) (ht : Tab w) (hz : z.length = 138) (hs : s.size ≤ maxLen) :
    Calls Tryd.prog 7 #[.string s, .agg (S z), .int .i64 pc] w fun e' w' => e' = .returned (.bool true) ∧ Below w.heap.size w w' := by
  have HT := hide ht
  have hpos := ht.pos
  clear ht
  have hm : ((z.drop 8).take 128).length = 128 := by simp [hz]
  have s128 : (Tryd.prog.info? 32).map (·.size) = some (((z.drop 8).take 128).map (Value.int .i64)).length := by rw [size128, List.length_map, hm]
  have HS128 := hide s128
  have HRm := hide (fun w' (h : RowI w' w.heap.size 34 z) => range_row h 8 128 (by omega))
  have HR : Hid (RowI (w.alloc (.cells (S z) 34)) w.heap.size 34 z) := _root_.Go.heap_alloc_new w _
  have HB0 := hide ((Below.refl w.heap.size w).alloc (Nat.le_refl _) (.cells (S z) 34))
  have H1 := hide (fun w' pc (hb : Below w.heap.size w w') => blocks_any ((z.drop 8).take 128) pc w' (HT.out.below hpos hb) hm)
  have cp := HR.out.cell 136 (by omega)
  clear s128 hm
  generalize hmg : (z.drop 8).take 128 = mg at *
  clear hmg
  go_enter Tryd.func7, Tryd.ntmps7
  go_wp2_with (refine wpList_load_mid rfl 32 _ rfl w.heap.size 8 rfl (mg.map (Value.int .i64)) _ (HRm.out _ HR.out) Tryd.underlying32 rfl HS128.out ?_)
  refine (unhide H1 _ _ HB0.out).mono ?_
  rintro e w1 ⟨rfl, hb1⟩
  have HB1 : Hid (Below w.heap.size w w1) := HB0.out.trans (hb1.mono (by rw [size_alloc1]; omega))
  have HR1 := hide (HR.out.keep (hb1.block _ (by rw [size_alloc1]; omega)))
  have hz1 := hb1.size
  rw [size_alloc1] at hz1
  clear hb1 HR cp
  go_wp2_with (refine wpList_load_mid rfl 32 _ rfl w.heap.size 8 rfl (mg.map (Value.int .i64)) _ (HRm.out _ HR1.out) Tryd.underlying32 rfl HS128.out ?_)
  refine (unhide H1 _ _ HB1.out).mono ?_
  rintro e w2 ⟨rfl, hb2⟩
  have HB2 : Hid (Below w.heap.size w w2) := HB1.out.trans (hb2.mono (by omega))
  have hz2 := hb2.size
  have H3 := hide (translates_one s w2 (HT.out.below hpos HB2.out) hs)
  clear hb2 H1
  go_wp2_with fail
  refine (unhide H3).mono ?_
  rintro e w3 ⟨rfl, hb3⟩
  have HB3 : Hid (Below w.heap.size w w3) := HB2.out.trans (hb3.mono (by omega))
  clear hb3 H3
  go_wp2_with fail
  go_ret
  exact ⟨rfl, HB3.out⟩
end Go.Proofs.YtmmflekajbeamaaDoor

namespace Go.Proofs.YtmmflekajbeamaaDoor
open Go.ChangeShapes Go.WideShapes Go.ChangeAt Go.WideMaps Go.WideElems Go.RowKit

theorem own : ownKnob Tryd.prog.godebug = none := by kernel_rfl
theorem laidOut : laidOutB Tryd.prog = true := by kernel_rfl
theorem gRows : Tryd.prog.globalNamed "crib/code.rows" = some 0 := by kernel_rfl
theorem tRows : (Tryd.prog.globals[0]?).map (·.type) = some 220 := by kernel_rfl
theorem c114 : Tryd.prog.cellsOf 198 = 3 := by kernel_rfl
theorem c132 : Tryd.prog.cellsOf 220 = 36 := by kernel_rfl
theorem c9 : Tryd.prog.cellsOf 9 = 1 := by kernel_rfl
theorem cells3 : Tryd.prog.cellsOf 3 = 1 := by kernel_rfl

set_option maxRecDepth 100000 in
/-- A row of the table, read: its three cells. -/
theorem row_cells {H : Type} {enc : TypeId × Value → H} {W : World} {base : Nat} {spare : Nat → Bool} {held : Bool} {m : Nat} {cs : List Value} {x : DataW H × List MemPlace} {a b : List UInt8} {n : Int}
    (h : DataW.trod enc Tryd.prog W base spare held m 198 cs = some x) (hx : x.1 = .agg [.lit (.string a), .lit (.int .i64 n), .lit (.string b)]) : cs = [.string ⟨a.toArray⟩, .int .i64 n, .string ⟨b.toArray⟩] := by
  obtain ⟨y0, y1, y2, k, rfl, hl, h0, h1, h2⟩ := Go.Deep.trod_struct3 Tryd.underlying198 h
  rw [c114] at hl
  match cs, hl with
  | [v0, v1, v2], _ =>
    obtain ⟨s0, e0, f0, _⟩ := DataW.trod_string Tryd.underlying9 h0
    obtain ⟨k1, e1, f1, _⟩ := DataW.trod_int Tryd.underlying3 h1
    obtain ⟨s2, e2, f2, _⟩ := DataW.trod_string Tryd.underlying9 h2
    subst f0 f1 f2
    simp [c9, cells3] at e0 e1 e2
    simp at hx
    obtain ⟨rfl, rfl, rfl⟩ := hx
    subst e0 e1 e2
    rfl

theorem chunk {cs : List Value} {rest : List Value} {i : Nat} (a b c : Value) (h : (cs.drop i).take 3 = [a, b, c]) (hr : cs.drop (i + 3) = rest) : cs.drop i = a :: b :: c :: rest := by
  have := List.take_append_drop 3 (cs.drop i)
  rw [h, List.drop_drop, hr] at this
  exact this.symm

set_option maxRecDepth 100000 in
theorem of_laid {W : World} (h : laidMetH Tryd.prog [("crib/code.rows", Rows.laid_crib_code_rows)] W) : Tab W := by
  rw [MakeChecks.laidMetH_plain _ _ _ (by kernel_rfl)] at h
  obtain ⟨ps, ⟨g0, t0, cs0, f0, p0, q0, hg0, ht0, hv0, hd0, _⟩, _, _⟩ := h
  obtain rfl := Option.some.inj (gRows.symm.trans hg0)
  obtain rfl := Option.some.inj (tRows.symm.trans ht0)
  obtain ⟨xs, m1, rfl, hx1, hlen, hn, hel⟩ := DataW.trod_array Tryd.underlying220 hd0
  rw [c114] at hel
  rw [c132] at hlen
  simp only [Prod.mk.injEq] at hx1
  have hx := hx1.1
  simp only [Rows.laid_crib_code_rows, DataW.agg.injEq] at hx
  match xs, hn, hx, hel with
  | [x0, x1, x2, x3, x4, x5, x6, x7, x8, x9, x10, x11], _, hx, hel =>
    simp only [List.map_cons, List.map_nil, List.cons.injEq, and_true] at hx
    obtain ⟨d0, d1, d2, d3, d4, d5, d6, d7, d8, d9, d10, d11⟩ := hx
    have r0 := row_cells (hel 0 (by decide)) d0.symm
    have r1 := row_cells (hel 1 (by decide)) d1.symm
    have r2 := row_cells (hel 2 (by decide)) d2.symm
    have r3 := row_cells (hel 3 (by decide)) d3.symm
    have r4 := row_cells (hel 4 (by decide)) d4.symm
    have r5 := row_cells (hel 5 (by decide)) d5.symm
    have r6 := row_cells (hel 6 (by decide)) d6.symm
    have r7 := row_cells (hel 7 (by decide)) d7.symm
    have r8 := row_cells (hel 8 (by decide)) d8.symm
    have r9 := row_cells (hel 9 (by decide)) d9.symm
    have r10 := row_cells (hel 10 (by decide)) d10.symm
    have r11 := row_cells (hel 11 (by decide)) d11.symm
    have e12 : cs0.toList.drop 36 = [] := List.drop_of_length_le (by omega)
    have e11 := chunk _ _ _ r11 e12
    have e10 := chunk _ _ _ r10 e11
    have e9 := chunk _ _ _ r9 e10
    have e8 := chunk _ _ _ r8 e9
    have e7 := chunk _ _ _ r7 e8
    have e6 := chunk _ _ _ r6 e7
    have e5 := chunk _ _ _ r5 e6
    have e4 := chunk _ _ _ r4 e5
    have e3 := chunk _ _ _ r3 e4
    have e2 := chunk _ _ _ r2 e3
    have e1 := chunk _ _ _ r1 e2
    have e0 := chunk _ _ _ r0 e1
    have ec : cs0 = tabA := by
      apply Array.toList_inj.1
      have : cs0.toList.drop (0 * 3) = cs0.toList := rfl
      rw [← this, e0]
      rfl
    subst ec
    unfold World.var? at hv0
    rw [gRows] at hv0
    simp only [Option.bind_some] at hv0
    unfold Tab
    split at hv0
    · rename_i c t fr hc
      cases hv0
      exact ⟨t, fr, hc⟩
    · cases hv0

/-- The heap that the program's own start-up leaves meets the condition. -/
theorem door_met (os : Os) (args : Array Value) : laidMetH Tryd.prog [("crib/code.rows", Rows.laid_crib_code_rows)] ((World.doorLaid Tryd.prog 26 os).forCall (fun _ _ => 0) ⟨#[], args, []⟩).memory :=
  laidMetH_of_parts3 (fuel := 8) (laidMet_of_run' 8 (by kernel_rfl) (by kernel_rfl)) (by kernel_rfl) (by kernel_rfl)
end Go.Proofs.YtmmflekajbeamaaDoor

namespace Go.Proofs.YtmmflekajbeamaaDoor
open Go.ChangeShapes Go.WideShapes Go.ChangeAt Go.WideMaps Go.WideElems Go.RowKit

theorem types34 : Tryd.prog.cellTypes Tryd.prog.depth 34 = some (List.replicate 138 3) := by kernel_rfl
theorem c34 : Tryd.prog.cellsOf 34 = 138 := by kernel_rfl
set_option maxRecDepth 100000 in
/-- A state that came in: 138 numbers. -/
theorem agg_S {W : World} {b : Nat} {v : Value} (h : Value.okWide Tryd.prog W .any b 34 v) : ∃ z : List Int, v = .agg (S z) ∧ z.length = 138 := by
  unfold Value.okWide at h
  rw [Tryd.underlying34] at h
  obtain ⟨cs, rfl, hs, ts, hts, _, hc⟩ := h
  rw [c34] at hs
  obtain rfl := Option.some.inj (types34.symm.trans hts)
  have hi : ∀ (i : Nat) (hi : i < cs.toList.length), ∃ n, cs.toList[i] = .int .i64 n := fun i hi => by
    obtain ⟨u, hu, hk⟩ := hc i (cs.toList[i]) (by simp)
    rw [List.length_replicate, List.getElem?_replicate] at hu
    split at hu
    · obtain rfl := Option.some.inj hu
      obtain ⟨n, hn⟩ := okWide_int (r := .any) (base := b) (w := W) Tryd.underlying3 (show Value.okWide Tryd.prog W .any b 3 (cs.toList[i]) from by unfold Value.okWide; rw [Tryd.underlying3]; exact hk)
      exact ⟨n, hn⟩
    · cases hu
  have hz : ∃ z : List Int, cs.toList = z.map (Value.int .i64) := by
    have hm : ∀ x ∈ cs.toList, ∃ n, x = Value.int .i64 n := fun x hx => by
      obtain ⟨i, hlt, rfl⟩ := List.mem_iff_getElem.1 hx
      exact hi i hlt
    generalize cs.toList = l at hm
    induction l with
    | nil => exact ⟨[], rfl⟩
    | cons x l ih =>
      obtain ⟨n, rfl⟩ := hm x (by simp)
      obtain ⟨z, hz⟩ := ih (fun y hy => hm y (by simp [hy]))
      exact ⟨n :: z, by rw [hz]; rfl⟩
  obtain ⟨z, hz⟩ := hz
  refine ⟨z, ?_, ?_⟩
  · congr 1
    apply Array.toList_inj.1
    rw [hz]; simp [S]
  · have := congrArg List.length hz
    simp at this
    omega

end Go.Proofs.YtmmflekajbeamaaDoor
