/-
  Translates: what a translating leaves.
  Plans: two rows of numbers held against each other; Accept.
  Translates: the program's own Translate (translator.Translate, crib.Translate).
  Translates, the document's answer: what a put reads, and whether it is needed (cribref.reads, needed).
-/
import Derived.Test.YtmmflekajbeamaaDoorT19
import Derived.Test.YtmmflekajbeamaaDoorT17
import Derived.Test.YtmmflekajbeamaaDoorT18
import Derived.ChangeKeysEq
import Derived.Test.YtmmflekajbeamaaDoorT21
import Derived.Test.YtmmflekajbeamaaDoorT15
import Derived.Test.YtmmflekajbeamaaDoorT16
namespace Go.Proofs.YtmmflekajbeamaaDoor
open Go.RowKit

/-- What a translating leaves. -/
def TrPost (s : ByteArray) (w : World) (e' : Ending) (w' : World) : Prop :=
  Below w.heap.size w w' ∧ ((blkOK s ∧ e' = .returned (.tuple #[.string (bya (planT (ownP s))), .int .i64 0])) ∨ (¬ blkOK s ∧ e' = .returned (.tuple #[.string (bya []), .int .i64 10])))
theorem TrPost.form {s : ByteArray} {w w' : World} {e : Ending} (h : TrPost s w e w') : ∃ D n, e = .returned (.tuple #[.string D, .int .i64 n]) := by
  obtain ⟨_, ⟨_, rfl⟩ | ⟨_, rfl⟩⟩ := h
  · exact ⟨_, _, rfl⟩
  · exact ⟨_, _, rfl⟩
theorem TrPost.one {s : ByteArray} {w1 w2 w1' w2' : World} {e1 e2 : Ending} (h1 : TrPost s w1 e1 w1') (h2 : TrPost s w2 e2 w2') : e1 = e2 := by
  obtain ⟨_, ⟨a, rfl⟩ | ⟨a, rfl⟩⟩ := h1 <;> obtain ⟨_, ⟨c, rfl⟩ | ⟨c, rfl⟩⟩ := h2
  all_goals first | rfl | exact absurd a c | exact absurd c a
end Go.Proofs.YtmmflekajbeamaaDoor

namespace Go.Proofs.YtmmflekajbeamaaDoor
open Go.RowKit Go.Maps Go.WideMaps

theorem eqItems_gen {P : Program} (d : Nat) {e : TypeId} (he : P.underlying e = some (.int .i64)) (x y : List Int) (w : World) : ∀ (is : List Nat), (∀ i ∈ is, i < x.length ∧ i < y.length) →
    (Op.eqItems (d + 1) e 1 (S x) (S y) is).run P w = .ok (is.all fun i => gz x i == gz y i) w
  | [], _ => by simp [Op.eqItems]
  | i :: is, h => by
    obtain ⟨h1, h2⟩ := h i (by simp)
    have px : (part e (S x) (i * 1)).run P w = .ok (.int .i64 (gz x i)) w := by
      rw [Nat.mul_one]
      simp [part, isAgg, run_underlying he, S_get x i h1]
    have py : (part e (S y) (i * 1)).run P w = .ok (.int .i64 (gz y i)) w := by
      rw [Nat.mul_one]
      simp [part, isAgg, run_underlying he, S_get y i h2]
    have pe : (Op.equalIn (d + 1) e (.int .i64 (gz x i)) (.int .i64 (gz y i))).run P w = .ok (gz x i == gz y i) w := run_equalIn_int w d e .i64 .i64 _ _ he
    simp only [Op.eqItems, Sem.run_bind, px, py, pe, Result.andThen_ok, List.all_cons]
    cases hq : (gz x i == gz y i)
    · simp
    · simpa using eqItems_gen d he x y w is (fun j hj => h j (by simp [hj]))
theorem csI1 : Tryd.prog.cellsOf 3 = 1 := by kernel_rfl
theorem infI1 : ∃ i, Tryd.prog.info? 3 = some i := by
  cases h : Tryd.prog.info? 3 with
  | none => exact absurd (show (Tryd.prog.info? 3).isSome = true by kernel_rfl) (by rw [h]; decide)
  | some i => exact ⟨i, rfl⟩
theorem all_eq {x y : List Int} {n : Nat} (hx : x.length = n) (hy : y.length = n) : ((List.range n).all fun i => gz x i == gz y i) = decide (x = y) := by
  rw [Bool.eq_iff_iff, List.all_eq_true, decide_eq_true_eq]
  constructor
  · intro h
    apply List.ext_getElem?
    intro i
    by_cases hi : i < n
    · have := h i (List.mem_range.2 hi)
      rw [beq_iff_eq] at this
      unfold gz at this
      rw [List.getD_eq_getElem?_getD, List.getD_eq_getElem?_getD, List.getElem?_eq_getElem (by omega), List.getElem?_eq_getElem (by omega)] at this
      rw [List.getElem?_eq_getElem (by omega), List.getElem?_eq_getElem (by omega)]
      simpa using this
    · rw [List.getElem?_eq_none (by omega), List.getElem?_eq_none (by omega)]
  · rintro rfl i _
    exact beq_self_eq_true _
theorem eq8 (x y : List Int) (hx : x.length = 8) (hy : y.length = 8) (w : World) : (binOp .eql 31 (.agg (S x)) (.agg (S y))).run Tryd.prog w = .ok (.bool (decide (x = y))) w := by
  obtain ⟨i, hi⟩ := infI1
  rw [run_eql_struct, run_equalIn_array w 9999 (S x) (S y) Tryd.underlying31 hi, csI1, eqItems_gen 9998 Tryd.underlying3 x y w _ (fun j hj => by have := List.mem_range.1 hj; omega), all_eq hx hy]
  rfl
/-- The document's answer to Accept. -/
def AccIs (s p : ByteArray) (n : Int) : Prop :=
  (¬ blkOK s ∧ n = 10) ∨ (blkOK s ∧ ¬ putsOK p ∧ n = 11) ∨ (blkOK s ∧ putsOK p ∧ (comeS (blkPuts s)).take 8 = (comeS (putL p (p.size / 8))).take 8 ∧ n = 0) ∨ (blkOK s ∧ putsOK p ∧ ¬ (comeS (blkPuts s)).take 8 = (comeS (putL p (p.size / 8))).take 8 ∧ n = 12)
theorem AccIs.one {s p : ByteArray} {n m : Int} (h : AccIs s p n) (k : AccIs s p m) : n = m := by
  unfold AccIs at h k
  rcases h with ⟨h1, h2⟩ | ⟨h1, h2, h3⟩ | ⟨h1, h2, h3, h4⟩ | ⟨h1, h2, h3, h4⟩ <;> rcases k with ⟨k1, k2⟩ | ⟨k1, k2, k3⟩ | ⟨k1, k2, k3, k4⟩ | ⟨k1, k2, k3, k4⟩
  all_goals first | exact absurd h1 k1 | exact absurd k1 h1 | exact absurd h2 k2 | exact absurd k2 h2 | exact absurd h3 k3 | exact absurd k3 h3 | omega
/-- The program's words of a block, against the text's. -/
theorem plN_nPl {s : ByteArray} (h : blkOK s) : plN (blkL s (s.size / 4)) = nPl s := by
  have h4 := h.1
  unfold plN nPl
  rw [blkL_len, blkL_at s (by omega)]
  cases hq : plW (wdAt s (s.size / 4 - 1))
  · rw [if_pos ⟨by omega, rfl⟩, if_neg (by decide)]
  · rw [if_neg (fun h => by cases h.2), if_pos rfl]
theorem blkL_take (s : ByteArray) {k n : Nat} (h : n ≤ k) : (blkL s k).take n = blkL s n := by
  unfold blkL
  rw [← List.map_take, List.take_range, Nat.min_eq_left h]
theorem pwL_blk (s : ByteArray) : pwL (blkL s (nPl s)) = blkPuts s := by
  unfold pwL blkL blkPuts
  rw [List.map_map]
  rfl
theorem tab_new (W : World) : TabAt W.heap.size (W.heap.size + 1) [] W.heap.size (.slice none 0 0) ((W.alloc (.map #[] 0)).alloc (.cells #[.map (some W.heap.size), .slice none 0 0] 140)) := by
  refine ⟨?_, ?_, fun i => ?_, by omega, Nat.le_refl _, (fun g hg => by cases hg), World.ownsRow_nil _ _ _ _, .map [], (World.ownsMap_made W _ _ _).alloc _, fun e _ => ⟨⟨fun h => (by cases h), fun h => (by cases h)⟩, fun n hn => (by simp at hn)⟩⟩
  · rw [World.cell?_alloc_at (hn := by rw [size_alloc1])]; rfl
  · rw [World.cell?_alloc_at (hn := by rw [size_alloc1])]; rfl
  · rw [World.frozen?_alloc_at (hn := by rw [size_alloc1])]
theorem mk137 (w : World) : (Instr.makeMap 137 none).run Tryd.prog w = .ok (.map (some w.heap.size)) (w.alloc (.map #[] 0)) := by kernel_rfl
theorem nI_inj {a b : List Nat} : nI a = nI b ↔ a = b := by
  unfold nI
  constructor
  · intro h
    exact List.map_inj_right (fun x y h => by omega) |>.1 h
  · rintro rfl; rfl
theorem own_take {w : World} {B : Nat} {v : Value} {n m : Nat} {xs : List Value} {e : TypeId} {k : Nat} (h : w.ownsRow B e k v n xs) (hn : n = m) : w.ownsRow B e k v m xs := hn ▸ h

set_option maxRecDepth 100000 in
set_option maxHeartbeats 2000000 in
theorem meanAccept_any (s p : ByteArray) (w : World) (ht : Tab w) (hs : s.size ≤ maxLen) (hp : p.size ≤ maxLen) :
    Calls Tryd.prog 59 #[.string s, .string p] w fun e' w' => Below w.heap.size w w' ∧ ∃ n, e' = .returned (.int .i64 n) ∧ AccIs s p n := by
  have z9 := zero9
  have HRd := hide (blkRead_any s w ht hs)
  have HPt := hide (fun w' => plansPuts_any p w' hp)
  have HTb := hide ht
  have hpos := ht.pos
  clear ht
  go_enter Tryd.func59, Tryd.ntmps59
  go_wp2_with fail
  refine (unhide HRd).mono ?_
  rintro e w1 ⟨hb1, ⟨hok, rfl⟩ | ⟨hno, rfl⟩⟩
  · have HB1 := hide hb1; have HOk := hide hok
    have hz1 := hb1.size
    have h8 : s.size / 4 ≤ 8 := by have := hok.2.1; omega
    have hzl := wdZ_len (ws := blkL s (s.size / 4)) (by rw [blkL_len]; exact h8)
    clear hb1 hok HRd
    go_wp2_with (refine wpList_storeR size9 rfl _ _ rfl w1.heap.size rfl (wdZ (blkL s (s.size / 4))) rfl hzl (by rw [isRowB_alloc_at _ _ _ _ _ rfl]; rfl) _ (setRow_alloc_at _ _ _ _ _ rfl) ?_)
    refine (unhide HPt _).mono ?_
    rintro e w2 ⟨hb2, ⟨hpk, pv, rfl, hpo⟩ | ⟨hpn, rfl⟩⟩
    · have HRw := hide (RowI.keep (w' := w2) (show RowI (w1.alloc (.cells (S (wdZ (blkL s (s.size / 4)))) 127)) w1.heap.size 127 (wdZ (blkL s (s.size / 4))) from _root_.Go.heap_alloc_new w1 _) (hb2.block _ (by rw [size_alloc1]; omega)))
      have HB2 : Hid (Below w.heap.size w w2) := (HB1.out.alloc hz1 _).trans (hb2.mono (by rw [size_alloc1]; omega))
      have hz2 : w1.heap.size < w2.heap.size := HRw.out.lt
      have HPk := hide hpk; have HPo := hide hpo
      have HRl := hide (fun w' => plain_list (blkL s (s.size / 4)) w')
      clear hb2 hpk hpo HPt
      obtain ⟨W3, hW3⟩ : ∃ W3, W3 = ((w2.alloc (.map #[] 0)).alloc (.cells #[.map (some w2.heap.size), .slice none 0 0] 140)) := ⟨_, rfl⟩
      have HW := hide hW3
      have h3b : Below w2.heap.size w2 W3 := by rw [hW3]; exact ((Below.refl _ _).alloc (Nat.le_refl _) _).alloc (by rw [size_alloc1]; omega) _
      have h3z : W3.heap.size = w2.heap.size + 1 + 1 := by rw [hW3, size_alloc1, size_alloc1]
      have H3T : Hid (TabAt w2.heap.size (w2.heap.size + 1) [] w2.heap.size (.slice none 0 0) W3) := by unfold Hid; rw [hW3]; exact tab_new w2
      have H3B := hide h3b
      have r3 := HRw.out.keep (h3b.block _ hz2)
      have rI := r3.isRow 9 hzl
      have rD := r3.rowD
      have HPl := hide (plain_list (blkL s (s.size / 4)) W3 (HTb.out.below hpos (HB2.out.trans (h3b.mono (Nat.le_trans hz1 (Nat.le_of_lt hz2))))) (by rw [blkL_len]; exact h8) (blkL_bd s _))
      have mk := mk137 w2
      clear hW3 h3b r3 HRl
      go_wp2_with (refine wpList_loadR rfl Tryd.underlying127 size9 rfl _ rfl w1.heap.size rfl (by rw [← HW.out]; exact rI) (S (wdZ (blkL s (s.size / 4)))) (by rw [← HW.out]; exact rD) ?_)
      rw [← HW.out]
      refine (unhide HPl).mono ?_
      rintro e w4 ⟨hb4, fv, rfl, hfo⟩
      rw [plN_nPl HOk.out, blkL_take s (nPl_le s)] at hfo
      have HOf := hide (ofWords_any _ fv (blkL s (nPl s)) w4 (own_take hfo (blkL_len s _).symm) (by rw [blkL_len]; exact Nat.le_trans (nPl_le s) h8))
      have HB4 := hide hb4
      have hz4 := hb4.size
      clear hb4 hfo HPl rI rD
      go_wp2_with fail
      refine (unhide HOf).mono ?_
      rintro e w5 ⟨hb5, pv1, rfl, hpo1⟩
      rw [pwL_blk, blkL_len, ← nPl_len] at hpo1
      have hz5 := hb5.size
      have H35 : Hid (Below W3.heap.size W3 w5) := HB4.out.trans (hb5.mono hz4)
      have HCo := hide (comeTo_any w2.heap.size _ (w2.heap.size + 1) [] [] w2.heap.size (.slice none 0 0) pv1 (blkPuts s) w5 (H3T.out.above H35.out) TI.nil hpo1 (blkPuts_ok HOk.out) (by rw [nPl_len]; have := nPl_le s; omega) (by simp) (fun g hg => by have := (row_lt hpo1 g hg).1; omega))
      clear hb5 hpo1 HOf
      go_wp2_with fail
      refine (unhide HCo).mono ?_
      rintro e w6 ⟨T1, ds1, v1, ns1, rfl, c1, c2, c3, c4, c5, c6⟩
      have H25 : Hid (Below w2.heap.size w2 w6) := (H3B.out.trans (H35.out.mono (by omega))).trans c5.below
      have hpo6 : w6.ownsRow (w1.alloc (.cells (S (wdZ (blkL s (s.size / 4)))) 127)).heap.size 59 5 pv (putL p (p.size / 8)).length (putCs (putL p (p.size / 8))) := own_take (own_grow HPo.out H25.out) (putL_len p _).symm
      have HCo2 := hide (comeTo_any w2.heap.size _ (w2.heap.size + 1) T1 ds1 w2.heap.size v1 pv (putL p (p.size / 8)) w6 c1 c2 hpo6 (putL_ok HPk.out) (by rw [putL_len]; have := HPk.out.2.1; omega) (by simp at c6; omega) (fun g hg => by have := (row_lt HPo.out g hg).2; omega))
      have HC4 := hide c4; have HC2 := hide c2
      have hl1 := c4.n16
      clear c1 c2 c3 c4 c5 c6 hpo6 HCo
      go_wp2_with fail
      refine (unhide HCo2).mono ?_
      rintro e w7 ⟨T2, ds2, v2, ns2, rfl, q1, q2, q3, q4, q5, q6⟩
      have HB7 : Hid (Below w.heap.size w w7) := HB2.out.trans ((H25.out.trans q5.below).mono (Nat.le_trans hz1 (Nat.le_of_lt hz2)))
      have HSm : Hid (nI (ns1.take 8) = nI (ns2.take 8) ↔ (comeS (blkPuts s)).take 8 = (comeS (putL p (p.size / 8))).take 8) := by
        unfold Hid
        rw [nI_inj]
        exact Slots.same q2 (HC4.out.more HC2.out.len q3) q4
      have hl2 := q4.n16
      have heq := eq8 (nI (ns1.take 8)) (nI (ns2.take 8)) (by rw [nI_len, List.length_take]; omega) (by rw [nI_len, List.length_take]; omega)
      clear q1 q2 q3 q4 q5 q6 HCo2 HC4
      by_cases hsame : nI (ns1.take 8) = nI (ns2.take 8)
      · rw [decide_eq_true hsame] at heq
        have HY := hide (HSm.out.1 hsame)
        clear hsame HSm
        go_wp2_with fail
        go_ret
        exact ⟨HB7.out, _, rfl, .inr (.inr (.inl ⟨HOk.out, HPk.out, HY.out, rfl⟩))⟩
      · rw [decide_eq_false hsame] at heq
        have HY : Hid (¬ (comeS (blkPuts s)).take 8 = (comeS (putL p (p.size / 8))).take 8) := fun h => hsame (HSm.out.2 h)
        clear hsame HSm
        go_wp2_with fail
        go_ret
        exact ⟨HB7.out, _, rfl, .inr (.inr (.inr ⟨HOk.out, HPk.out, HY.out, rfl⟩))⟩
    · have HB2 : Hid (Below w.heap.size w w2) := (HB1.out.alloc hz1 _).trans (hb2.mono (by rw [size_alloc1]; omega))
      have HN := hide hpn
      clear hb2 hpn
      go_wp2_with fail
      go_ret
      exact ⟨HB2.out, _, rfl, .inr (.inl ⟨HOk.out, HN.out, rfl⟩)⟩
  · have HB1 := hide hb1; have HNo := hide hno
    have hz1 := hb1.size
    clear hb1 hno HRd
    go_wp2_with (refine wpList_storeR size9 rfl _ _ rfl w1.heap.size rfl (wdZ []) rfl rfl (by rw [isRowB_alloc_at _ _ _ _ _ rfl]; rfl) _ (setRow_alloc_at _ _ _ _ _ rfl) ?_)
    go_ret
    exact ⟨HB1.out.alloc hz1 _, _, rfl, .inl ⟨HNo.out, rfl⟩⟩

set_option maxRecDepth 100000 in
set_option maxHeartbeats 400000 in
theorem cribAccept_any (s p : ByteArray) (w : World) (ht : Tab w) (hs : s.size ≤ maxLen) (hp : p.size ≤ maxLen) :
    Calls Tryd.prog 27 #[.string s, .string p] w fun e' w' => Below w.heap.size w w' ∧ ∃ n, e' = .returned (.int .i64 n) ∧ AccIs s p n := by
  have HP := hide (meanAccept_any s p w ht hs hp)
  clear ht
  go_enter Tryd.func27, Tryd.ntmps27
  go_wp2_with fail
  refine (unhide HP).mono ?_
  rintro e w1 ⟨hb, n, rfl, hn⟩
  have HB := hide hb; have HN := hide hn
  clear hb hn
  go_wp2_with fail
  go_ret
  exact ⟨HB.out, n, rfl, HN.out⟩
end Go.Proofs.YtmmflekajbeamaaDoor

namespace Go.Proofs.YtmmflekajbeamaaDoor
open Go.RowKit

theorem withoutIdle_any (B : Nat) (pa : Option Addr) (pc : Nat) (ps : List PutN) (w : World) (ho : w.ownsRow B 59 5 (.slice pa ps.length pc) ps.length (putCs ps)) (hl : ps.length ≤ 8) (hw : ∀ p ∈ ps, okB p) :
    Calls Tryd.prog 100 #[.slice pa ps.length pc] w fun e' w' => Below w.heap.size w w' ∧ ∃ v, e' = .returned v ∧ w'.ownsRow w.heap.size 59 5 v (idle ps).length (putCs (idle ps)) :=
  callsIn_wide.1 (withoutIdle_in B pa pc ps w ho hl hw)

set_option maxRecDepth 100000 in
set_option maxHeartbeats 2000000 in
theorem trTranslate_any (s : ByteArray) (w : World) (ht : Tab w) (hs : s.size ≤ maxLen) :
    Calls Tryd.prog 58 #[.string s] w (TrPost s w) := by
  have z9 := zero9
  have HRd := hide (blkRead_any s w ht hs)
  have HTb := hide ht
  have hpos := ht.pos
  clear ht
  go_enter Tryd.func58, Tryd.ntmps58
  go_wp2_with fail
  refine (unhide HRd).mono ?_
  rintro e w1 ⟨hb1, ⟨hok, rfl⟩ | ⟨hno, rfl⟩⟩
  · have HB1 := hide hb1; have HOk := hide hok
    have hz1 := hb1.size
    have h8 : s.size / 4 ≤ 8 := by have := hok.2.1; omega
    have hzl := wdZ_len (ws := blkL s (s.size / 4)) (by rw [blkL_len]; exact h8)
    obtain ⟨W3, hW3⟩ : ∃ W3, W3 = w1.alloc (.cells (S (wdZ (blkL s (s.size / 4)))) 127) := ⟨_, rfl⟩
    have HW := hide hW3
    have r3 : RowI W3 w1.heap.size 127 (wdZ (blkL s (s.size / 4))) := by unfold RowI; rw [hW3, _root_.Go.heap_alloc_new]
    have h3b : Below w.heap.size w W3 := by rw [hW3]; exact hb1.alloc hz1 _
    have H3B := hide h3b
    have rI := r3.isRow 9 hzl
    have rD := r3.rowD
    have h3z : w.heap.size ≤ W3.heap.size := h3b.size
    have HPl := hide (plain_list (blkL s (s.size / 4)) W3 (HTb.out.below hpos h3b) (by rw [blkL_len]; exact h8) (blkL_bd s _))
    clear hb1 hok HRd hW3 h3b r3
    go_wp2_with (first | (refine wpList_storeR size9 rfl _ _ rfl w1.heap.size rfl (wdZ (blkL s (s.size / 4))) rfl hzl (by rw [isRowB_alloc_at _ _ _ _ _ rfl]; rfl) _ (setRow_alloc_at _ _ _ _ _ rfl) ?_) | (refine wpList_loadR rfl Tryd.underlying127 size9 rfl _ rfl w1.heap.size rfl (by rw [← HW.out]; exact rI) (S (wdZ (blkL s (s.size / 4)))) (by rw [← HW.out]; exact rD) ?_))
    rw [← HW.out]
    refine (unhide HPl).mono ?_
    rintro e w4 ⟨hb4, fv, rfl, hfo⟩
    rw [plN_nPl HOk.out, blkL_take s (nPl_le s)] at hfo
    have HOf := hide (ofWords_any _ fv (blkL s (nPl s)) w4 (own_take hfo (blkL_len s _).symm) (by rw [blkL_len]; exact Nat.le_trans (nPl_le s) h8))
    have HB4 : Hid (Below w.heap.size w w4) := H3B.out.trans (hb4.mono h3z)
    have hz4 := hb4.size
    clear hb4 hfo HPl rI rD
    go_wp2_with fail
    refine (unhide HOf).mono ?_
    rintro e w5 ⟨hb5, pv1, rfl, hpo1⟩
    rw [pwL_blk, blkL_len, ← nPl_len] at hpo1
    have hn8 : (blkPuts s).length ≤ 8 := by rw [nPl_len]; exact Nat.le_trans (nPl_le s) h8
    have HK := hide (withKnown_any _ pv1 (blkPuts s) w5 hpo1 hn8 (blkPuts_okB HOk.out))
    have HB5 : Hid (Below w.heap.size w w5) := HB4.out.trans (hb5.mono (by omega))
    have hz5 := hb5.size
    clear hb5 hpo1 HOf
    go_wp2_with fail
    refine (unhide HK).mono ?_
    rintro e w6 ⟨hb6, pv2, rfl, hpo2⟩
    obtain ⟨hkk, hkl⟩ := wKn_ok (blkPuts_okB HOk.out)
    obtain ⟨pa, pc, hpv2⟩ := owns_len hpo2
    subst hpv2
    have HWi := hide (withoutIdle_any _ pa pc (wKn (blkPuts s)) w6 hpo2 (by rw [hkl]; exact hn8) hkk)
    have HB6 : Hid (Below w.heap.size w w6) := HB5.out.trans (hb6.mono (by omega))
    have hz6 := hb6.size
    clear hb6 hpo2 HK hkk hkl hn8
    go_wp2_with fail
    refine (unhide HWi).mono ?_
    rintro e w7 ⟨hb7, pv3, rfl, hpo3⟩
    obtain ⟨hoo, hol⟩ := ownP_ok HOk.out
    have HTx := hide (planText_any _ pv3 (ownP s) w7 hpo3 (Nat.le_trans hol (Nat.le_trans (nPl_le s) h8)) hoo)
    have HB7 : Hid (Below w.heap.size w w7) := HB6.out.trans (hb7.mono (by omega))
    have hz7 := hb7.size
    clear hb7 hpo3 HWi hoo hol
    go_wp2_with fail
    refine (unhide HTx).mono ?_
    rintro e w8 ⟨rfl, hb8⟩
    have HB8 : Hid (Below w.heap.size w w8) := HB7.out.trans (hb8.mono (by omega))
    clear hb8 HTx
    go_wp2_with fail
    go_ret2
    exact ⟨HB8.out, .inl ⟨HOk.out, rfl⟩⟩
  · have HB1 := hide hb1; have HNo := hide hno
    have hz1 := hb1.size
    clear hb1 hno HRd
    go_wp2_with (refine wpList_storeR size9 rfl _ _ rfl w1.heap.size rfl (wdZ []) rfl rfl (by rw [isRowB_alloc_at _ _ _ _ _ rfl]; rfl) _ (setRow_alloc_at _ _ _ _ _ rfl) ?_)
    go_ret2
    exact ⟨HB1.out.alloc hz1 _, .inr ⟨HNo.out, rfl⟩⟩

set_option maxRecDepth 100000 in
theorem cribTranslate_any (s : ByteArray) (w : World) (ht : Tab w) (hs : s.size ≤ maxLen) :
    Calls Tryd.prog 26 #[.string s] w (TrPost s w) := by
  have HC := hide (trTranslate_any s w ht hs)
  clear ht
  go_enter Tryd.func26, Tryd.ntmps26
  go_wp2_with fail
  refine (unhide HC).mono ?_
  intro e w1 hpost
  obtain ⟨D, n, rfl⟩ := hpost.form
  have HP := hide hpost
  clear hpost
  go_wp2_with fail
  go_ret2
  exact HP.out
end Go.Proofs.YtmmflekajbeamaaDoor

namespace Go.Proofs.YtmmflekajbeamaaDoor
open Go.RowKit

set_option maxRecDepth 100000 in
set_option maxHeartbeats 2000000 in
theorem reads_any (p : PutN) (q : Nat) (w : World) :
    Calls Tryd.prog 130 #[.agg (putV p), .int .i64 (q : Int)] w fun e' w' => e' = .returned (.bool (rdB p q)) ∧ Below w.heap.size w w' := by
  obtain ⟨k, d, a, b, c⟩ := p
  have HB : Hid (∀ o, Below w.heap.size w (w.alloc o)) := fun o => (Below.refl _ _).alloc (Nat.le_refl _) _
  have ea : ((a : Int) == (q : Int)) = decide (a = q) := by rw [Bool.eq_iff_iff, beq_iff_eq, decide_eq_true_eq]; omega
  have eb : ((b : Int) == (q : Int)) = decide (b = q) := by rw [Bool.eq_iff_iff, beq_iff_eq, decide_eq_true_eq]; omega
  unfold putV
  by_cases h1 : k = 1
  · subst h1
    have HE : Hid (rdB ⟨1, d, a, b, c⟩ q = false) := rfl
    go_enter Tryd.func130, Tryd.ntmps130
    go_wp2_with fail
    go_ret
    exact ⟨ret_bool HE.out.symm, HB.out _⟩
  · have h1' : ((k : Int) == 1) = false := by simp; omega
    by_cases h6 : k = 6
    · subst h6
      have HE : Hid (rdB ⟨6, d, a, b, c⟩ q = decide (a = q)) := rfl
      go_enter Tryd.func130, Tryd.ntmps130
      go_wp2_with fail
      go_ret
      exact ⟨ret_bool (by rw [HE.out]), HB.out _⟩
    · have h6' : ((k : Int) == 6) = false := by simp; omega
      by_cases h7 : k = 7
      · subst h7
        have HE : Hid (rdB ⟨7, d, a, b, c⟩ q = decide (a = q)) := rfl
        go_enter Tryd.func130, Tryd.ntmps130
        go_wp2_with fail
        go_ret
        exact ⟨ret_bool (by rw [HE.out]), HB.out _⟩
      · have h7' : ((k : Int) == 7) = false := by simp; omega
        have HE : Hid (rdB ⟨k, d, a, b, c⟩ q = decide (a = q ∨ b = q)) := by
          unfold Hid rdB
          rw [if_neg h1, if_neg (fun h => h.elim h6 h7)]
        by_cases hq : a = q
        · have hq' : ((a : Int) == (q : Int)) = true := by rw [ea]; exact decide_eq_true hq
          have HT : Hid (rdB ⟨k, d, a, b, c⟩ q = true) := by unfold Hid; rw [HE.out]; exact decide_eq_true (.inl hq)
          clear hq ea eb
          go_enter Tryd.func130, Tryd.ntmps130
          go_wp2_with fail
          go_ret
          exact ⟨ret_bool HT.out.symm, HB.out _⟩
        · have hq' : ((a : Int) == (q : Int)) = false := by rw [ea]; exact decide_eq_false hq
          have HT : Hid (rdB ⟨k, d, a, b, c⟩ q = ((b : Int) == (q : Int))) := by
            unfold Hid
            rw [HE.out, eb, Bool.eq_iff_iff, decide_eq_true_eq, decide_eq_true_eq]
            exact ⟨fun h => h.resolve_left hq, .inr⟩
          clear hq ea eb
          go_enter Tryd.func130, Tryd.ntmps130
          go_wp2_with fail
          go_ret
          exact ⟨ret_bool HT.out.symm, HB.out _⟩
theorem nd_step {l : List PutN} {j : Nat} {p : PutN} (h : l[j]? = some p) (q : Nat) : nd (l.drop j) q = if nd (l.drop (j + 1)) p.d = true then (if rdB p q = true then true else if p.d = q then false else nd (l.drop (j + 1)) q) else nd (l.drop (j + 1)) q := by
  rw [drop_cons' h, nd]
theorem getD_some {l : List PutN} {j : Nat} (h : j < l.length) : l[j]? = some (l.getD j zPut) := by
  rw [List.getD_eq_getElem?_getD, List.getElem?_eq_getElem h]; rfl

set_option maxRecDepth 100000 in
set_option maxHeartbeats 4000000 in
theorem needed_any (B : Nat) (l : List PutN) (hl8 : l.length ≤ 8) : ∀ (m i : Nat), l.length - i ≤ m → i < l.length → ∀ (lv : Value) (w : World), w.ownsRow B 59 5 lv l.length (putCs l) →
    Calls Tryd.prog 93 #[lv, .int .i64 (i : Int)] w fun e' w' => e' = .returned (.bool (nd (l.drop (i + 1)) (l.getD i zPut).d)) ∧ Below w.heap.size w w' := by
  intro m
  induction m with
  | zero => intro i h1 h2; omega
  | succ m ih =>
    intro i him hi lv w hown
    obtain ⟨g, cap, rfl, _, hgl⟩ := hown.form (by omega)
    have HIH := hide ih
    have HO := hide hown
    have HI := hide hi
    have hi' : (i : Int) < (l.length : Int) := by omega
    have hn8 : (l.length : Int) ≤ 8 := by omega
    have HLi := hide (getD_some hi)
    generalize l.getD i zPut = pi at *
    clear ih hown
    go_enter Tryd.func93, Tryd.ntmps93
    go_wp2_with fail
    go_loopw [5] (fun x wr => ∃ j : Nat, i + 1 ≤ j ∧ j ≤ l.length ∧ x = .int .i64 j ∧ Hid (nd (l.drop j) pi.d = nd (l.drop (i + 1)) pi.d ∧ Below w.heap.size w wr)) (fun x _ => l.length - (intOf x).toNat)
    case atStart => exact ⟨i + 1, Nat.le_refl _, by omega, by go_num, rfl, Below.refl _ _⟩
    case round =>
      obtain ⟨j, hij, hjl, rfl, HR⟩ := hrel
      obtain ⟨hnd, hbl⟩ := HR.out
      have hwz := hbl.size
      have HBl := hide hbl
      by_cases hlt : j < l.length
      · have hlt' : (j : Int) < (l.length : Int) := by omega
        have hown1 := own_grow HO.out hbl
        have HRec := hide (HIH.out j (by omega) hlt _ wr hown1)
        have hj := getD_some hlt
        have hst := nd_step hj pi.d
        rw [hnd] at hst
        generalize l.getD j zPut = pj at *
        obtain ⟨x0, x1, x2, x3, x4⟩ := put_cells hown1 j pj hj
        obtain ⟨_, y1, _, _, _⟩ := put_cells hown1 i pi HLi.out
        have HO1 := hide hown1
        clear hown1 hnd hbl hj
        cases hq : nd (l.drop (j + 1)) pj.d
        · rw [hq, if_neg (by decide)] at hst
          rw [hq] at HRec
          have HSt := hide hst
          clear hst x0 x1 x2 x3 x4 y1
          go_wp2_with fail
          refine (unhide HRec).mono ?_
          rintro e w1 ⟨rfl, hb1⟩
          have HB1 : Hid (Below w.heap.size w w1) := HBl.out.trans (hb1.mono hwz)
          clear hb1
          go_wp2_with fail
          exact ⟨⟨j + 1, by omega, by omega, by go_num, HSt.out.symm, HB1.out⟩, by simp [intOf]; omega⟩
        · rw [hq, if_pos rfl] at hst
          rw [hq] at HRec
          have HRd := hide (fun w' => reads_any pj pi.d w')
          have hglr : g < wr.heap.size := by omega
          have HSt := hide hst
          clear hst hq
          generalize hrd : rdB pj pi.d = rd at *
          have HRd' := hide hrd
          clear hrd
          obtain ⟨k0, k1, k2, k3, k4⟩ := pj
          simp only [putV] at HRd
          simp only at x0 x1 x2 x3 x4
          go_wp2_with fail
          refine (unhide HRec).mono ?_
          rintro e w1 ⟨rfl, hb1⟩
          have HB1 : Hid (Below w.heap.size w w1) := HBl.out.trans (hb1.mono hwz)
          have hz1 := hb1.size
          have x0 := (below_cell' hb1 g (j * 5) hglr).trans x0
          have x1 := (below_cell' hb1 g (j * 5 + 1) hglr).trans x1
          have x2 := (below_cell' hb1 g (j * 5 + 1 + 1) hglr).trans x2
          have x3 := (below_cell' hb1 g (j * 5 + 1 + 1 + 1) hglr).trans x3
          have x4 := (below_cell' hb1 g (j * 5 + 1 + 1 + 1 + 1) hglr).trans x4
          have y1 := (below_cell' hb1 g (i * 5 + 1) hglr).trans y1
          have hgl1 : g < w1.heap.size := by omega
          clear hb1
          go_wp2_with fail
          go_region_held3 (fun w' => w'.cell? ⟨g, j * 5, none⟩ = some (.int .i64 (k0 : Int)) ∧ w'.cell? ⟨g, j * 5 + 1, none⟩ = some (.int .i64 (k1 : Int)) ∧ w'.cell? ⟨g, j * 5 + 1 + 1, none⟩ = some (.int .i64 (k2 : Int)) ∧ w'.cell? ⟨g, j * 5 + 1 + 1 + 1, none⟩ = some (.int .i64 (k3 : Int)) ∧ w'.cell? ⟨g, j * 5 + 1 + 1 + 1 + 1, none⟩ = some (.int .i64 (k4 : Int)) ∧ w'.cell? ⟨g, i * 5 + 1, none⟩ = some (.int .i64 (pi.d : Int))) (go_keep) ((go_at_call 130; refine (unhide HRd _).mono ?_; rintro e w2 ⟨rfl, hb2⟩; have kk := fun j => below_cell' hb2 g j hgl1))
          have HB2 : Hid (Below w.heap.size w w2) := (HB1.out.drew).trans (hb2.mono (by show w.heap.size ≤ w1.heap.size; omega))
          have X1 : w2.cell? ⟨g, j * 5 + 1, none⟩ = some (.int .i64 (k1 : Int)) := (kk _).trans x1
          have Y1 : w2.cell? ⟨g, i * 5 + 1, none⟩ = some (.int .i64 (pi.d : Int)) := (kk _).trans y1
          clear kk hb2 x0 x1 x2 x3 x4 y1
          cases rd
          · rw [if_neg (by decide)] at HSt
            by_cases hd : k1 = pi.d
            · have hd' : ((k1 : Int) == (pi.d : Int)) = true := by rw [beq_iff_eq]; omega
              rw [if_pos hd] at HSt
              clear hd
              go_wp2_with fail
              go_quiet (fail)
              go_wp2_with fail
              go_ret
              exact ⟨ret_bool HSt.out.symm, below_drewN HB2.out nq⟩
            · have hd' : ((k1 : Int) == (pi.d : Int)) = false := by rw [beq_eq_false_iff_ne]; omega
              rw [if_neg hd] at HSt
              clear hd
              go_wp2_with fail
              go_quiet (fail)
              go_wp2_with fail
              exact ⟨⟨j + 1, by omega, by omega, by go_num, HSt.out.symm, below_drewN HB2.out nq⟩, by simp [intOf]; omega⟩
          · rw [if_pos rfl] at HSt
            go_wp2_with fail
            go_ret
            exact ⟨ret_bool HSt.out.symm, HB2.out⟩
      · have hlt' : ¬ (j : Int) < (l.length : Int) := by omega
        have hjn : j = l.length := by omega
        have HE : Hid (nd (l.drop (i + 1)) pi.d = true) := by
          unfold Hid
          rw [← hnd, hjn, List.drop_length]; rfl
        clear hnd hbl
        go_wp2_with fail
        go_ret
        exact ⟨ret_bool HE.out.symm, HBl.out⟩
end Go.Proofs.YtmmflekajbeamaaDoor
