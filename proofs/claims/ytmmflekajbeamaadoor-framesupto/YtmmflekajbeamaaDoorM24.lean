/-
  Plans: two rows of numbers held against each other; Accept.
  Plans, the document's answer: Accept.
  A state that is built out of its parts.
-/
import Derived.Test.YtmmflekajbeamaaDoorM17
import Derived.Test.YtmmflekajbeamaaDoorM02
import Derived.ChangeKeysEq
import Derived.Test.YtmmflekajbeamaaDoorM23
import Derived.Test.YtmmflekajbeamaaDoorM20
import Derived.Test.YtmmflekajbeamaaDoorM06
import Derived.Test.YtmmflekajbeamaaDoorM19
import Derived.Laws.Tables
namespace Go.Proofs.YtmmflekajbeamaaDoor
open Go.RowKit Go.Maps Go.WideMaps

theorem eqItems_gen {P : Program} (d : Nat) {e : TypeId} (he : P.underlying e = some (.int .i64)) (x y : List Int) (w : World) : ∀ (is : List Nat), (∀ i ∈ is, i < x.length ∧ i < y.length) →
    (Op.eqItems (d + 1) e 1 (S x) (S y) is).run P w = .ok (is.all fun i => gz x i == gz y i) w
  | [], _ => by simp [Op.eqItems]
  | i :: is, h => by
    obtain ⟨h1, h2⟩ := h i (by simp)
    have px : (part e (S x) (i * 1)).run P w = .ok (.int .i64 (gz x i)) w := by
      rw [Nat.mul_one]
      simp [part, isAgg, run_underlying he, S_get x i h1]
    have py : (part e (S y) (i * 1)).run P w = .ok (.int .i64 (gz y i)) w := by
      rw [Nat.mul_one]
      simp [part, isAgg, run_underlying he, S_get y i h2]
    have pe : (Op.equalIn (d + 1) e (.int .i64 (gz x i)) (.int .i64 (gz y i))).run P w = .ok (gz x i == gz y i) w := run_equalIn_int w d e .i64 .i64 _ _ he
    simp only [Op.eqItems, Sem.run_bind, px, py, pe, Result.andThen_ok, List.all_cons]
    cases hq : (gz x i == gz y i)
    · simp
    · simpa using eqItems_gen d he x y w is (fun j hj => h j (by simp [hj]))
theorem csI1 : Tryd.prog.cellsOf 3 = 1 := by kernel_rfl
theorem infI1 : ∃ i, Tryd.prog.info? 3 = some i := by
  cases h : Tryd.prog.info? 3 with
  | none => exact absurd (show (Tryd.prog.info? 3).isSome = true by kernel_rfl) (by rw [h]; decide)
  | some i => exact ⟨i, rfl⟩
theorem all_eq {x y : List Int} {n : Nat} (hx : x.length = n) (hy : y.length = n) : ((List.range n).all fun i => gz x i == gz y i) = decide (x = y) := by
  rw [Bool.eq_iff_iff, List.all_eq_true, decide_eq_true_eq]
  constructor
  · intro h
    apply List.ext_getElem?
    intro i
    by_cases hi : i < n
    · have := h i (List.mem_range.2 hi)
      rw [beq_iff_eq] at this
      unfold gz at this
      rw [List.getD_eq_getElem?_getD, List.getD_eq_getElem?_getD, List.getElem?_eq_getElem (by omega), List.getElem?_eq_getElem (by omega)] at this
      rw [List.getElem?_eq_getElem (by omega), List.getElem?_eq_getElem (by omega)]
      simpa using this
    · rw [List.getElem?_eq_none (by omega), List.getElem?_eq_none (by omega)]
  · rintro rfl i _
    exact beq_self_eq_true _
theorem eq8 (x y : List Int) (hx : x.length = 8) (hy : y.length = 8) (w : World) : (binOp .eql 31 (.agg (S x)) (.agg (S y))).run Tryd.prog w = .ok (.bool (decide (x = y))) w := by
  obtain ⟨i, hi⟩ := infI1
  rw [run_eql_struct, run_equalIn_array w 9999 (S x) (S y) Tryd.underlying31 hi, csI1, eqItems_gen 9998 Tryd.underlying3 x y w _ (fun j hj => by have := List.mem_range.1 hj; omega), all_eq hx hy]
  rfl
/-- The document's answer to Accept. -/
def AccIs (s p : ByteArray) (n : Int) : Prop :=
  (¬ blkOK s ∧ n = 10) ∨ (blkOK s ∧ ¬ putsOK p ∧ n = 11) ∨ (blkOK s ∧ putsOK p ∧ (comeS (blkPuts s)).take 8 = (comeS (putL p (p.size / 8))).take 8 ∧ n = 0) ∨ (blkOK s ∧ putsOK p ∧ ¬ (comeS (blkPuts s)).take 8 = (comeS (putL p (p.size / 8))).take 8 ∧ n = 12)
theorem AccIs.one {s p : ByteArray} {n m : Int} (h : AccIs s p n) (k : AccIs s p m) : n = m := by
  unfold AccIs at h k
  rcases h with ⟨h1, h2⟩ | ⟨h1, h2, h3⟩ | ⟨h1, h2, h3, h4⟩ | ⟨h1, h2, h3, h4⟩ <;> rcases k with ⟨k1, k2⟩ | ⟨k1, k2, k3⟩ | ⟨k1, k2, k3, k4⟩ | ⟨k1, k2, k3, k4⟩
  all_goals first | exact absurd h1 k1 | exact absurd k1 h1 | exact absurd h2 k2 | exact absurd k2 h2 | exact absurd h3 k3 | exact absurd k3 h3 | omega
/-- The program's words of a block, against the text's. -/
theorem plN_nPl {s : ByteArray} (h : blkOK s) : plN (blkL s (s.size / 4)) = nPl s := by
  have h4 := h.1
  unfold plN nPl
  rw [blkL_len, blkL_at s (by omega)]
  cases hq : plW (wdAt s (s.size / 4 - 1))
  · rw [if_pos ⟨by omega, rfl⟩, if_neg (by decide)]
  · rw [if_neg (fun h => by cases h.2), if_pos rfl]
theorem blkL_take (s : ByteArray) {k n : Nat} (h : n ≤ k) : (blkL s k).take n = blkL s n := by
  unfold blkL
  rw [← List.map_take, List.take_range, Nat.min_eq_left h]
theorem pwL_blk (s : ByteArray) : pwL (blkL s (nPl s)) = blkPuts s := by
  unfold pwL blkL blkPuts
  rw [List.map_map]
  rfl
theorem tab_new (W : World) : TabAt W.heap.size (W.heap.size + 1) [] W.heap.size (.slice none 0 0) ((W.alloc (.map #[] 0)).alloc (.cells #[.map (some W.heap.size), .slice none 0 0] 140)) := by
  refine ⟨?_, ?_, fun i => ?_, by omega, Nat.le_refl _, (fun g hg => by cases hg), World.ownsRow_nil _ _ _ _, .map [], (World.ownsMap_made W _ _ _).alloc _, fun e _ => ⟨⟨fun h => (by cases h), fun h => (by cases h)⟩, fun n hn => (by simp at hn)⟩⟩
  · rw [World.cell?_alloc_at (hn := by rw [size_alloc1])]; rfl
  · rw [World.cell?_alloc_at (hn := by rw [size_alloc1])]; rfl
  · rw [World.frozen?_alloc_at (hn := by rw [size_alloc1])]
theorem mk137 (w : World) : (Instr.makeMap 137 none).run Tryd.prog w = .ok (.map (some w.heap.size)) (w.alloc (.map #[] 0)) := by kernel_rfl
theorem nI_inj {a b : List Nat} : nI a = nI b ↔ a = b := by
  unfold nI
  constructor
  · intro h
    exact List.map_inj_right (fun x y h => by omega) |>.1 h
  · rintro rfl; rfl
theorem own_take {w : World} {B : Nat} {v : Value} {n m : Nat} {xs : List Value} {e : TypeId} {k : Nat} (h : w.ownsRow B e k v n xs) (hn : n = m) : w.ownsRow B e k v m xs := hn ▸ h

set_option maxRecDepth 100000 in
set_option maxHeartbeats 2000000 in
theorem meanAccept_any (s p : ByteArray) (w : World) (ht : Tab w) (hs : s.size ≤ maxLen) (hp : p.size ≤ maxLen) :
    Calls Tryd.prog 59 #[.string s, .string p] w fun e' w' => Below w.heap.size w w' ∧ ∃ n, e' = .returned (.int .i64 n) ∧ AccIs s p n := by
  have z9 := zero9
  have HRd := hide (blkRead_any s w ht hs)
  have HPt := hide (fun w' => plansPuts_any p w' hp)
  have HTb := hide ht
  have hpos := ht.pos
  clear ht
  go_enter Tryd.func59, Tryd.ntmps59
  go_wp2_with fail
  refine (unhide HRd).mono ?_
  rintro e w1 ⟨hb1, ⟨hok, rfl⟩ | ⟨hno, rfl⟩⟩
  · have HB1 := hide hb1; have HOk := hide hok
    have hz1 := hb1.size
    have h8 : s.size / 4 ≤ 8 := by have := hok.2.1; omega
    have hzl := wdZ_len (ws := blkL s (s.size / 4)) (by rw [blkL_len]; exact h8)
    clear hb1 hok HRd
    go_wp2_with (refine wpList_storeR size9 rfl _ _ rfl w1.heap.size rfl (wdZ (blkL s (s.size / 4))) rfl hzl (by rw [isRowB_alloc_at _ _ _ _ _ rfl]; rfl) _ (setRow_alloc_at _ _ _ _ _ rfl) ?_)
    refine (unhide HPt _).mono ?_
    rintro e w2 ⟨hb2, ⟨hpk, pv, rfl, hpo⟩ | ⟨hpn, rfl⟩⟩
    · have HRw := hide (RowI.keep (w' := w2) (show RowI (w1.alloc (.cells (S (wdZ (blkL s (s.size / 4)))) 127)) w1.heap.size 127 (wdZ (blkL s (s.size / 4))) from _root_.Go.heap_alloc_new w1 _) (hb2.block _ (by rw [size_alloc1]; omega)))
      have HB2 : Hid (Below w.heap.size w w2) := (HB1.out.alloc hz1 _).trans (hb2.mono (by rw [size_alloc1]; omega))
      have hz2 : w1.heap.size < w2.heap.size := HRw.out.lt
      have HPk := hide hpk; have HPo := hide hpo
      have HRl := hide (fun w' => plain_list (blkL s (s.size / 4)) w')
      clear hb2 hpk hpo HPt
      obtain ⟨W3, hW3⟩ : ∃ W3, W3 = ((w2.alloc (.map #[] 0)).alloc (.cells #[.map (some w2.heap.size), .slice none 0 0] 140)) := ⟨_, rfl⟩
      have HW := hide hW3
      have h3b : Below w2.heap.size w2 W3 := by rw [hW3]; exact ((Below.refl _ _).alloc (Nat.le_refl _) _).alloc (by rw [size_alloc1]; omega) _
      have h3z : W3.heap.size = w2.heap.size + 1 + 1 := by rw [hW3, size_alloc1, size_alloc1]
      have H3T : Hid (TabAt w2.heap.size (w2.heap.size + 1) [] w2.heap.size (.slice none 0 0) W3) := by unfold Hid; rw [hW3]; exact tab_new w2
      have H3B := hide h3b
      have r3 := HRw.out.keep (h3b.block _ hz2)
      have rI := r3.isRow 9 hzl
      have rD := r3.rowD
      have HPl := hide (plain_list (blkL s (s.size / 4)) W3 (HTb.out.below hpos (HB2.out.trans (h3b.mono (Nat.le_trans hz1 (Nat.le_of_lt hz2))))) (by rw [blkL_len]; exact h8) (blkL_bd s _))
      have mk := mk137 w2
      clear hW3 h3b r3 HRl
      go_wp2_with (refine wpList_loadR rfl Tryd.underlying127 size9 rfl _ rfl w1.heap.size rfl (by rw [← HW.out]; exact rI) (S (wdZ (blkL s (s.size / 4)))) (by rw [← HW.out]; exact rD) ?_)
      rw [← HW.out]
      refine (unhide HPl).mono ?_
      rintro e w4 ⟨hb4, fv, rfl, hfo⟩
      rw [plN_nPl HOk.out, blkL_take s (nPl_le s)] at hfo
      have HOf := hide (ofWords_any _ fv (blkL s (nPl s)) w4 (own_take hfo (blkL_len s _).symm) (by rw [blkL_len]; exact Nat.le_trans (nPl_le s) h8))
      have HB4 := hide hb4
      have hz4 := hb4.size
      clear hb4 hfo HPl rI rD
      go_wp2_with fail
      refine (unhide HOf).mono ?_
      rintro e w5 ⟨hb5, pv1, rfl, hpo1⟩
      rw [pwL_blk, blkL_len, ← nPl_len] at hpo1
      have hz5 := hb5.size
      have H35 : Hid (Below W3.heap.size W3 w5) := HB4.out.trans (hb5.mono hz4)
      have HCo := hide (comeTo_any w2.heap.size _ (w2.heap.size + 1) [] [] w2.heap.size (.slice none 0 0) pv1 (blkPuts s) w5 (H3T.out.above H35.out) TI.nil hpo1 (blkPuts_ok HOk.out) (by rw [nPl_len]; have := nPl_le s; omega) (by simp) (fun g hg => by have := (row_lt hpo1 g hg).1; omega))
      clear hb5 hpo1 HOf
      go_wp2_with fail
      refine (unhide HCo).mono ?_
      rintro e w6 ⟨T1, ds1, v1, ns1, rfl, c1, c2, c3, c4, c5, c6⟩
      have H25 : Hid (Below w2.heap.size w2 w6) := (H3B.out.trans (H35.out.mono (by omega))).trans c5.below
      have hpo6 : w6.ownsRow (w1.alloc (.cells (S (wdZ (blkL s (s.size / 4)))) 127)).heap.size 59 5 pv (putL p (p.size / 8)).length (putCs (putL p (p.size / 8))) := own_take (own_grow HPo.out H25.out) (putL_len p _).symm
      have HCo2 := hide (comeTo_any w2.heap.size _ (w2.heap.size + 1) T1 ds1 w2.heap.size v1 pv (putL p (p.size / 8)) w6 c1 c2 hpo6 (putL_ok HPk.out) (by rw [putL_len]; have := HPk.out.2.1; omega) (by simp at c6; omega) (fun g hg => by have := (row_lt HPo.out g hg).2; omega))
      have HC4 := hide c4; have HC2 := hide c2
      have hl1 := c4.n16
      clear c1 c2 c3 c4 c5 c6 hpo6 HCo
      go_wp2_with fail
      refine (unhide HCo2).mono ?_
      rintro e w7 ⟨T2, ds2, v2, ns2, rfl, q1, q2, q3, q4, q5, q6⟩
      have HB7 : Hid (Below w.heap.size w w7) := HB2.out.trans ((H25.out.trans q5.below).mono (Nat.le_trans hz1 (Nat.le_of_lt hz2)))
      have HSm : Hid (nI (ns1.take 8) = nI (ns2.take 8) ↔ (comeS (blkPuts s)).take 8 = (comeS (putL p (p.size / 8))).take 8) := by
        unfold Hid
        rw [nI_inj]
        exact Slots.same q2 (HC4.out.more HC2.out.len q3) q4
      have hl2 := q4.n16
      have heq := eq8 (nI (ns1.take 8)) (nI (ns2.take 8)) (by rw [nI_len, List.length_take]; omega) (by rw [nI_len, List.length_take]; omega)
      clear q1 q2 q3 q4 q5 q6 HCo2 HC4
      by_cases hsame : nI (ns1.take 8) = nI (ns2.take 8)
      · rw [decide_eq_true hsame] at heq
        have HY := hide (HSm.out.1 hsame)
        clear hsame HSm
        go_wp2_with fail
        go_ret
        exact ⟨HB7.out, _, rfl, .inr (.inr (.inl ⟨HOk.out, HPk.out, HY.out, rfl⟩))⟩
      · rw [decide_eq_false hsame] at heq
        have HY : Hid (¬ (comeS (blkPuts s)).take 8 = (comeS (putL p (p.size / 8))).take 8) := fun h => hsame (HSm.out.2 h)
        clear hsame HSm
        go_wp2_with fail
        go_ret
        exact ⟨HB7.out, _, rfl, .inr (.inr (.inr ⟨HOk.out, HPk.out, HY.out, rfl⟩))⟩
    · have HB2 : Hid (Below w.heap.size w w2) := (HB1.out.alloc hz1 _).trans (hb2.mono (by rw [size_alloc1]; omega))
      have HN := hide hpn
      clear hb2 hpn
      go_wp2_with fail
      go_ret
      exact ⟨HB2.out, _, rfl, .inr (.inl ⟨HOk.out, HN.out, rfl⟩)⟩
  · have HB1 := hide hb1; have HNo := hide hno
    have hz1 := hb1.size
    clear hb1 hno HRd
    go_wp2_with (refine wpList_storeR size9 rfl _ _ rfl w1.heap.size rfl (wdZ []) rfl rfl (by rw [isRowB_alloc_at _ _ _ _ _ rfl]; rfl) _ (setRow_alloc_at _ _ _ _ _ rfl) ?_)
    go_ret
    exact ⟨HB1.out.alloc hz1 _, _, rfl, .inl ⟨HNo.out, rfl⟩⟩

set_option maxRecDepth 100000 in
set_option maxHeartbeats 400000 in
theorem cribAccept_any (s p : ByteArray) (w : World) (ht : Tab w) (hs : s.size ≤ maxLen) (hp : p.size ≤ maxLen) :
    Calls Tryd.prog 27 #[.string s, .string p] w fun e' w' => Below w.heap.size w w' ∧ ∃ n, e' = .returned (.int .i64 n) ∧ AccIs s p n := by
  have HP := hide (meanAccept_any s p w ht hs hp)
  clear ht
  go_enter Tryd.func27, Tryd.ntmps27
  go_wp2_with fail
  refine (unhide HP).mono ?_
  rintro e w1 ⟨hb, n, rfl, hn⟩
  have HB := hide hb; have HN := hide hn
  clear hb hn
  go_wp2_with fail
  go_ret
  exact ⟨HB.out, n, rfl, HN.out⟩
end Go.Proofs.YtmmflekajbeamaaDoor

namespace Go.Proofs.YtmmflekajbeamaaDoor
open Go.RowKit

theorem bya_inj {x y : List UInt8} : bya x = bya y ↔ x = y := by
  constructor
  · intro h
    have := congrArg (fun b : ByteArray => b.data.toList) h
    simpa [bya] using this
  · rintro rfl; rfl
set_option maxRecDepth 100000 in
set_option maxHeartbeats 2000000 in
theorem refAccept_any (s p : ByteArray) (w : World) (hs : s.size ≤ maxLen) (hp : p.size ≤ maxLen) :
    Calls Tryd.prog 54 #[.string s, .string p] w fun e' w' => Below w.heap.size w w' ∧ ∃ n, e' = .returned (.int .i64 n) ∧ AccIs s p n := by
  by_cases hok : blkOK s
  · have HIb := hide (isBlock_yes s w hok)
    have HPt := hide (refPuts_any p w hp)
    have HBw := hide (fun w' => byWords_ref s w' hok)
    have HOk := hide hok
    clear hok
    go_enter Tryd.func54, Tryd.ntmps54
    go_wp2_with fail
    refine (unhide HIb).mono ?_
    rintro e w' ⟨rfl, hw⟩
    obtain rfl := hw.symm
    go_wp2_with fail
    refine (unhide HPt).mono ?_
    rintro e w1 ⟨hb1, ⟨hpk, pv, rfl, hpo⟩ | ⟨hpn, rfl⟩⟩
    · have HB1 := hide hb1; have HPk := hide hpk; have HPo := hide hpo
      have hz1 := hb1.size
      clear hb1 hpk hpo HPt HIb
      go_wp2_with fail
      refine (unhide HBw _).mono ?_
      rintro e w2 ⟨hb2, v2, rfl, ho2⟩
      have hpo2 : w2.ownsRow w.heap.size 59 5 pv (putL p (p.size / 8)).length (putCs (putL p (p.size / 8))) := by rw [putL_len]; exact own_grow HPo.out hb2
      have HBp := hide (byPuts_ref w.heap.size pv (putL p (p.size / 8)) w2 hpo2 (putL_ok HPk.out) (by rw [putL_len]; have := HPk.out.2.1; omega))
      have HB2 := hide hb2; have HO2 := hide ho2
      have hz2 := hb2.size
      clear hb2 ho2 hpo2 HBw
      go_wp2_with fail
      refine (unhide HBp).mono ?_
      rintro e w3 ⟨hb3, v3, rfl, ho3⟩
      have HB3 : Hid (Below w.heap.size w w3) := (HB1.out.trans (HB2.out.mono hz1)).trans (hb3.mono (Nat.le_trans hz1 hz2))
      have hoX := own_grow HO2.out hb3
      obtain ⟨g2, c2, rfl, _, hg2⟩ := hoX.form (by decide)
      obtain ⟨g3, c3, rfl, _, hg3⟩ := ho3.form (by decide)
      have HX := hide (fun (i : Nat) (hi : i < 16) => (hoX.cellAt i (by omega)).trans (txCs_get (comeS (blkPuts s)) i (by rw [comeS_len]; exact hi)))
      have HY := hide (fun (i : Nat) (hi : i < 16) => (ho3.cellAt i (by omega)).trans (txCs_get (comeS (putL p (p.size / 8))) i (by rw [comeS_len]; exact hi)))
      clear hb3 ho3 hoX HBp HO2
      go_wp2_with fail
      go_loopw [10] (fun i wr => ∃ k : Nat, k ≤ 8 ∧ i = .int .i64 k ∧ Below w3.heap.size w3 wr ∧ Hid (∀ q, q < k → (comeS (blkPuts s)).getD q [] = (comeS (putL p (p.size / 8))).getD q [])) (fun i _ => 8 - (intOf i).toNat)
      case atStart => exact ⟨0, Nat.zero_le _, rfl, Below.refl _ _, fun q hq => by omega⟩
      case round =>
        obtain ⟨k, hk, rfl, hbl, HG⟩ := hrel
        have HBl := hide hbl
        by_cases hlt : k < 8
        · have hlt' : (k : Int) < 8 := by omega
          have hlt16 : (k : Int) < 16 := by omega
          have x0 := (below_cell' hbl g2 k hg2).trans (HX.out k (by omega))
          have y0 := (below_cell' hbl g3 k hg3).trans (HY.out k (by omega))
          by_cases he : (comeS (blkPuts s)).getD k [] = (comeS (putL p (p.size / 8))).getD k []
          · rw [← he] at y0
            have HG' : Hid (∀ q, q < k + 1 → (comeS (blkPuts s)).getD q [] = (comeS (putL p (p.size / 8))).getD q []) := fun q hq => by
              by_cases hqk : q = k
              · rw [hqk]; exact he
              · exact HG.out q (by omega)
            generalize bya ((comeS (blkPuts s)).getD k []) = D at *
            clear he HG hbl
            go_wp2_with fail
            go_quiet (fail)
            go_wp2_with fail
            exact ⟨⟨k + 1, by omega, by go_num, below_drewN HBl.out nq, HG'⟩, by simp [intOf]; omega⟩
          · have HN : Hid (¬ (comeS (blkPuts s)).take 8 = (comeS (putL p (p.size / 8))).take 8) := fun h => he ((take_eq_iff [] (by rw [comeS_len]; decide) (by rw [comeS_len]; decide)).1 h k hlt)
            have hne : ((bya ((comeS (blkPuts s)).getD k [])).toList == (bya ((comeS (putL p (p.size / 8))).getD k [])).toList) = false := by
              rw [ByteArray.toList_eq, ByteArray.toList_eq, bya_list, bya_list]
              exact beq_eq_false_iff_ne.2 he
            generalize bya ((comeS (blkPuts s)).getD k []) = D at *
            generalize bya ((comeS (putL p (p.size / 8))).getD k []) = D' at *
            clear he HG hbl
            go_wp2_with fail
            go_quiet (fail)
            go_wp2_with fail
            go_ret
            exact ⟨HB3.out.trans ((below_drewN HBl.out nq).mono HB3.out.size), _, rfl, .inr (.inr (.inr ⟨HOk.out, HPk.out, HN.out, rfl⟩))⟩
        · have hkn : k = 8 := by omega
          have hlt' : ¬ (k : Int) < 8 := by omega
          have HY' : Hid ((comeS (blkPuts s)).take 8 = (comeS (putL p (p.size / 8))).take 8) := (take_eq_iff [] (by rw [comeS_len]; decide) (by rw [comeS_len]; decide)).2 (fun i hi => HG.out i (by omega))
          clear hbl hkn
          go_wp2_with fail
          go_ret
          exact ⟨HB3.out.trans (HBl.out.mono HB3.out.size), _, rfl, .inr (.inr (.inl ⟨HOk.out, HPk.out, HY'.out, rfl⟩))⟩
    · have HB1 := hide hb1; have HN := hide hpn
      clear hb1 hpn HPt HIb
      go_wp2_with fail
      go_ret
      exact ⟨HB1.out, _, rfl, .inr (.inl ⟨HOk.out, HN.out, rfl⟩)⟩
  · have HIb := hide (isBlock_no s w hok hs)
    have HN := hide hok
    clear hok
    go_enter Tryd.func54, Tryd.ntmps54
    go_wp2_with fail
    refine (unhide HIb).mono ?_
    rintro e w' ⟨rfl, hw⟩
    obtain rfl := hw.symm
    go_wp2_with fail
    go_ret
    exact ⟨Below.refl _ _, _, rfl, .inl ⟨HN.out, rfl⟩⟩
end Go.Proofs.YtmmflekajbeamaaDoor

namespace Go.Proofs.YtmmflekajbeamaaDoor
open Go.RowKit

theorem fold_put (off : Nat) : ∀ (l : List Value) (i : Nat) (cs : Array Value), off + i + l.length ≤ cs.size → ((l.zipIdx i).foldl (fun cs x => cs.setIfInBounds (off + x.2) x.1) cs).size = cs.size ∧ ∀ j : Nat, ((l.zipIdx i).foldl (fun cs x => cs.setIfInBounds (off + x.2) x.1) cs)[j]? = if off + i ≤ j ∧ j < off + i + l.length then l[j - (off + i)]? else cs[j]? := by
  intro l
  induction l with
  | nil => intro i cs _; exact ⟨rfl, fun j => by rw [if_neg (by simp only [List.length_nil]; omega)]; rfl⟩
  | cons v l ih =>
    intro i cs h
    rw [List.length_cons] at h
    obtain ⟨h1, h2⟩ := ih (i + 1) (cs.setIfInBounds (off + i) v) (by rw [Array.size_setIfInBounds]; omega)
    rw [List.zipIdx_cons, List.foldl_cons]
    refine ⟨by rw [h1, Array.size_setIfInBounds], fun j => ?_⟩
    rw [h2, List.length_cons]
    by_cases hj : j = off + i
    · subst hj
      rw [if_neg (by omega), if_pos (by omega), Nat.sub_self, Array.getElem?_setIfInBounds, if_pos rfl, if_pos (by omega)]
      rfl
    · by_cases hj2 : off + (i + 1) ≤ j ∧ j < off + (i + 1) + l.length
      · rw [if_pos hj2, if_pos (by omega), show j - (off + i) = (j - (off + (i + 1))) + 1 by omega, List.getElem?_cons_succ]
      · rw [if_neg hj2, if_neg (by omega), Array.getElem?_setIfInBounds, if_neg (fun e => hj e.symm)]
/-- The cells of v laid into cs from off on. -/
def layA (off : Nat) (v cs : Array Value) : Array Value := v.zipIdx.foldl (fun cs x => cs.setIfInBounds (off + x.2) x.1) cs
theorem layA_eq (off : Nat) (v cs : Array Value) : layA off v cs = (v.toList.zipIdx 0).foldl (fun cs x => cs.setIfInBounds (off + x.2) x.1) cs := by
  unfold layA
  rw [← Array.foldl_toList, Array.toList_zipIdx]
theorem layA_size (off : Nat) (v cs : Array Value) (h : off + v.size ≤ cs.size) : (layA off v cs).size = cs.size := by
  rw [layA_eq]
  exact (fold_put off v.toList 0 cs (by simpa using h)).1
theorem layA_get (off : Nat) (v cs : Array Value) (h : off + v.size ≤ cs.size) (j : Nat) : (layA off v cs)[j]? = if off ≤ j ∧ j < off + v.size then v[j - off]? else cs[j]? := by
  rw [layA_eq, (fold_put off v.toList 0 cs (by simpa using h)).2 j]
  simp
set_option maxRecDepth 100000 in
theorem places34 : (match Tryd.prog.underlying 34 with | some (.struct fs) => fs.toList.mapM (fun f => (Tryd.prog.info? f.type).map fun i => (f.offset, i.size)) | _ => none) = some [(0, 8), (8, 128), (136, 1), (137, 1)] := by kernel_rfl
theorem info34 : ∃ i, Tryd.prog.info? 34 = some i ∧ i.zero = some (.agg (S zeroZ)) := by
  have h : (Tryd.prog.info? 34).map (fun i => i.zero) = some (some (.agg (S zeroZ))) := by kernel_rfl
  cases hq : Tryd.prog.info? 34 with
  | none => rw [hq] at h; cases h
  | some i =>
    rw [hq] at h
    simp only [Option.map_some, Option.some.injEq] at h
    exact ⟨i, rfl, h⟩
set_option maxRecDepth 100000 in
theorem built34 (parts : List (Nat × Value)) : Tryd.prog.built 34 parts = Instr.fill (fun x => #[((0 : Nat), (8 : Nat)), (8, 128), (136, 1), (137, 1)][x]?) (S zeroZ) parts := by
  obtain ⟨i, hi, hz⟩ := info34
  have hp := places34
  unfold Program.built
  rw [hi]
  rw [Tryd.underlying34] at hp ⊢
  simp only [hz] at hp ⊢
  rw [hp]
  rfl
theorem zz_get (j : Nat) (h : j < 138) : (S zeroZ)[j]? = some (.int .i64 0) := by
  have := S_get zeroZ j (by simpa [zeroZ] using h)
  rw [this]
  unfold gz zeroZ
  rw [List.getD_eq_getElem?_getD, List.getElem?_replicate, if_pos h]; rfl
theorem zz_size : (S zeroZ).size = 138 := by rw [S_size]; simp [zeroZ]
theorem S_ext {z : List Int} {a : Array Value} (hl : z.length = a.size) (h : ∀ j, j < z.length → a[j]? = some (.int .i64 (gz z j))) : a = S z := by
  apply Array.ext_getElem?
  intro j
  by_cases hj : j < z.length
  · rw [h j hj, S_get z j hj]
  · rw [Array.getElem?_eq_none (by omega), Array.getElem?_eq_none (by rw [S_size]; omega)]
theorem fill_two (p q : Nat) (a b : Array Value) (o1 s1 o2 s2 : Nat) (hp : #[((0 : Nat), (8 : Nat)), (8, 128), (136, 1), (137, 1)][p]? = some (o1, s1)) (hq : #[((0 : Nat), (8 : Nat)), (8, 128), (136, 1), (137, 1)][q]? = some (o2, s2)) (v u : Value) (hv : v.cells = a) (hu : u.cells = b) (ha : a.size = s1) (hb : b.size = s2) (h1 : o1 + s1 ≤ 138) (h2 : o2 + s2 ≤ 138) :
    Instr.fill (fun x => #[((0 : Nat), (8 : Nat)), (8, 128), (136, 1), (137, 1)][x]?) (S zeroZ) [(p, v), (q, u)] = some (layA o2 b (layA o1 a (S zeroZ))) := by
  simp only [Instr.fill, hp, hq, hv, hu]
  rw [if_neg (by simp [ha, zz_size]; omega)]
  have hs : (Array.foldl (fun cs x => cs.setIfInBounds (o1 + x.2) x.1) (S zeroZ) a.zipIdx).size = 138 := by
    have := layA_size o1 a (S zeroZ) (by rw [zz_size]; omega)
    rw [zz_size] at this
    exact this
  rw [if_neg (by rw [hb, hs]; simp; omega)]
  rfl
/-- api.State{Regs: regs, Mem: mem}. -/
theorem build_rm (regs mem : List Int) (hr : regs.length = 8) (hm : mem.length = 128) (w : World) : (Instr.build 34 #[(0, .agg (S regs)), (1, .agg (S mem))]).run Tryd.prog w = .ok (.agg (S (mkZ regs mem 0 0))) w := by
  refine run_build w 34 _ _ ?_
  have z1 : (S regs).size = 8 := by rw [S_size, hr]
  have z2 : (S mem).size = 128 := by rw [S_size, hm]
  rw [built34, fill_two 0 1 (S regs) (S mem) 0 8 8 128 rfl rfl _ _ rfl rfl z1 z2 (by decide) (by decide)]
  congr 1
  have hs1 := layA_size 0 (S regs) (S zeroZ) (by rw [z1, zz_size]; decide)
  rw [zz_size] at hs1
  refine S_ext (by rw [mkZ_len hr hm, layA_size _ _ _ (by rw [hs1, z2]; decide), hs1]) (fun j hj => ?_)
  rw [mkZ_len hr hm] at hj
  rw [layA_get _ _ _ (by rw [hs1, z2]; decide), z2]
  by_cases h8 : j < 8
  · rw [if_neg (by omega), layA_get _ _ _ (by rw [z1, zz_size]; decide), z1, if_pos (by omega), mkZ_reg hr h8, Nat.sub_zero, S_get regs j (by omega)]; rfl
  · by_cases h136 : j < 136
    · rw [if_pos (by omega), S_get mem (j - 8) (by omega)]
      have := mkZ_mem (pc := 0) (st := 0) hr hm (i := j - 8) (by omega)
      rw [show 8 + (j - 8) = j by omega] at this
      rw [this]; rfl
    · rw [if_neg (by omega), layA_get _ _ _ (by rw [z1, zz_size]; decide), z1, if_neg (by omega), zz_get j hj]
      by_cases h137 : j = 136
      · rw [h137, mkZ_pc hr hm]
      · rw [show j = 137 by omega, mkZ_st hr hm]
/-- api.State{Mem: mem, Pc: pc}. -/
theorem build_mp (mem : List Int) (pc : Int) (hm : mem.length = 128) (w : World) : (Instr.build 34 #[(1, .agg (S mem)), (2, .int .i64 pc)]).run Tryd.prog w = .ok (.agg (S (mkZ (List.replicate 8 0) mem pc 0))) w := by
  refine run_build w 34 _ _ ?_
  have hr : (List.replicate 8 (0 : Int)).length = 8 := by simp
  have z2 : (S mem).size = 128 := by rw [S_size, hm]
  rw [built34, fill_two 1 2 (S mem) #[.int .i64 pc] 8 128 136 1 rfl rfl _ _ rfl rfl z2 rfl (by decide) (by decide)]
  congr 1
  have hs1 := layA_size 8 (S mem) (S zeroZ) (by rw [z2, zz_size]; decide)
  rw [zz_size] at hs1
  refine S_ext (by rw [mkZ_len hr hm, layA_size _ _ _ (by rw [hs1]; exact Nat.le_of_ble_eq_true rfl), hs1]) (fun j hj => ?_)
  rw [mkZ_len hr hm] at hj
  rw [layA_get _ _ _ (by rw [hs1]; exact Nat.le_of_ble_eq_true rfl)]
  by_cases h8 : j < 8
  · rw [if_neg (by simp; omega), layA_get _ _ _ (by rw [z2, zz_size]; decide), z2, if_neg (by omega), zz_get j hj, mkZ_reg hr h8, List.getD_eq_getElem?_getD, List.getElem?_replicate, if_pos h8]; rfl
  · by_cases h136 : j < 136
    · rw [if_neg (by simp; omega), layA_get _ _ _ (by rw [z2, zz_size]; decide), z2, if_pos (by omega), S_get mem (j - 8) (by omega)]
      have := mkZ_mem (pc := pc) (st := 0) hr hm (i := j - 8) (by omega)
      rw [show 8 + (j - 8) = j by omega] at this
      rw [this]; rfl
    · by_cases h137 : j = 136
      · rw [h137, if_pos (by simp), mkZ_pc hr hm]; rfl
      · rw [show j = 137 by omega, if_neg (by simp), layA_get _ _ _ (by rw [z2, zz_size]; decide), z2, if_neg (by omega), zz_get 137 (by decide), mkZ_st hr hm]
/-- A composite literal at the operation, where its run is known. -/
theorem wpList_buildR {ops : Array Oper} {rest : List Oper} {o : Oper} {a : Act} {w : World} {Q : Exit → Act → World → Prop} (hgd : o.guard = none) (ty : TypeId) (i j : Nat) (x y : Operand) (ho : o.op = .build ty #[(i, x), (j, y)])
    (u v r : Value) (hx : a.eval x = u) (hy : a.eval y = v) (hr : (Instr.build ty #[(i, u), (j, v)]).run Tryd.prog w = .ok r w)
    (h : wpList Tryd.prog ops Q rest (a.put o.dst r) w) : wpList Tryd.prog ops Q (o :: rest) a w := by
  refine wpList_plain hgd fun K hK => ?_
  unfold Oper.wp execOp
  simp only [ho, Sem.run_bind, Sem.run_pure, Result.andThen_ok, List.map_toArray, List.map_cons, List.map_nil, hx, hy, hr]
  exact hK _ _ h
end Go.Proofs.YtmmflekajbeamaaDoor
