/-
  An instruction's parts held against its row of the table (checkParts).
  What has been read of a text: words, labels, uses of labels; how they lie in memory; the same as plain functions on lists.
-/
import Derived.Test.YtmmflekajbeamaaDoorS07
import Derived.Maps.OwnSet
import Derived.Maps.OwnOps
namespace Go.Proofs.YtmmflekajbeamaaDoor
open Go.RowKit

/-- May a token be a part of the kind c (r, n, v)? -/
def fitK (c : UInt8) (s : ByteArray) : Bool := if c = 114 then regB s.data.toList else if c = 118 then fitB 4294967295 s else fitB 4095 s
theorem fits_any (c : UInt8) (s : ByteArray) (w : World) (hc : c = 114 ∨ c = 110 ∨ c = 118) (ht : Tab w) (hs : s.size ≤ maxLen) :
    Calls Tryd.prog 183 #[.int .i32 (c.toNat : Int), .string s] w fun e' w' => e' = .returned (.bool (fitK c s)) ∧ Below w.heap.size w w' := by
  rcases hc with rfl | rfl | rfl
  · refine (fits_reg s w hs).mono ?_
    rintro e w' ⟨rfl, rfl⟩
    exact ⟨rfl, Below.refl _ _⟩
  · exact fits_num 110 4095 s w (.inl ⟨rfl, rfl⟩) ht hs
  · exact fits_num 118 4294967295 s w (.inr ⟨rfl, rfl⟩) ht hs

/-- A token's five cells, from offset o of block g on. -/
structure RowAt (w : World) (g o : Nat) (t : Tok) : Prop where
  r0 : w.cell? ⟨g, o, none⟩ = some (.string t.text)
  r1 : w.cell? ⟨g, o + 1, none⟩ = some (.int .i64 t.fl)
  r2 : w.cell? ⟨g, o + 1 + 1, none⟩ = some (.int .i64 t.fc)
  r3 : w.cell? ⟨g, o + 1 + 1 + 1, none⟩ = some (.int .i64 t.bl)
  r4 : w.cell? ⟨g, o + 1 + 1 + 1 + 1, none⟩ = some (.int .i64 t.bc)
theorem RowAt.below {w w' : World} {g o : Nat} {t : Tok} (h : RowAt w g o t) (hb : Below w.heap.size w w') : RowAt w' g o t := by
  have hg : g < w.heap.size := block_lt_of_cell h.r0
  exact ⟨(below_cell' hb g _ hg).trans h.r0, (below_cell' hb g _ hg).trans h.r1, (below_cell' hb g _ hg).trans h.r2, (below_cell' hb g _ hg).trans h.r3, (below_cell' hb g _ hg).trans h.r4⟩
/-- A slice of tokens, wherever it begins. -/
def SlAt (w : World) (v : Value) (l : List Tok) : Prop :=
  ∃ a cap, v = .slice a l.length cap ∧ l.length ≤ cap ∧ (l ≠ [] → ∃ g off, a = some ⟨g, off, none⟩ ∧ ∀ i t, l[i]? = some t → RowAt w g (off + i * 5) t)
theorem SlAt.below {w w' : World} {v : Value} {l : List Tok} (h : SlAt w v l) (hb : Below w.heap.size w w') : SlAt w' v l := by
  obtain ⟨a, cap, hv, hc, h⟩ := h
  refine ⟨a, cap, hv, hc, fun hne => ?_⟩
  obtain ⟨g, off, ha, hr⟩ := h hne
  exact ⟨g, off, ha, fun i t hi => (hr i t hi).below hb⟩

/-- The first part that is wrong, too many or lacking: its place. -/
def chkGo (pt : List UInt8) : Nat → Tok → List Tok → Option (Int × Int)
  | i, last, [] => if i < pt.length then some (last.bl, last.bc) else none
  | i, _, t :: ts => if pt.length ≤ i then some (t.fl, t.fc) else if fitK (pt.getD i 0) t.text = false then some (t.fl, t.fc) else chkGo pt (i + 1) t ts

theorem rowPt_kind (n : Nat) (i : Nat) (c : UInt8) (h : (rowPt n)[i]? = some c) : c = 114 ∨ c = 110 ∨ c = 118 := by
  have hm : c ∈ rowPt n := List.mem_of_getElem? h
  match n, hm with
  | 0, hm => simp [rowPt] at hm
  | 1, hm => simp [rowPt] at hm; rcases hm with rfl | rfl <;> decide
  | 2, hm => simp [rowPt] at hm; subst hm; decide
  | 3, hm => simp [rowPt] at hm; subst hm; decide
  | 4, hm => simp [rowPt] at hm; subst hm; decide
  | 5, hm => simp [rowPt] at hm; subst hm; decide
  | 6, hm => simp [rowPt] at hm; rcases hm with rfl | rfl <;> decide
  | 7, hm => simp [rowPt] at hm; rcases hm with rfl | rfl <;> decide
  | 8, hm => simp [rowPt] at hm; rcases hm with rfl | rfl <;> decide
  | 9, hm => simp [rowPt] at hm; subst hm; decide
  | 10, hm => simp [rowPt] at hm; subst hm; decide
  | 11, hm => simp [rowPt] at hm; subst hm; decide
  | k + 12, hm => simp [rowPt] at hm
theorem rowPt_len (n : Nat) : (rowPt n).length ≤ 3 := by
  match n with
  | 0 | 1 | 2 | 3 | 4 | 5 | 6 | 7 | 8 | 9 | 10 | 11 => decide
  | k + 12 => simp [rowPt]

def W3c (n : Nat) (hd : Tok) (w : World) : World :=
  ((w.alloc (.cells #[.string ⟨(rowNm n).toArray⟩, .int .i64 (rowOp n), .string ⟨(rowPt n).toArray⟩] 198)).alloc (.cells #[.string hd.text, .int .i64 hd.fl, .int .i64 hd.fc, .int .i64 hd.bl, .int .i64 hd.bc] 209)).alloc (.cells #[.int .i64 0, .int .i64 0, .int .i64 0] 116)
theorem W3c_size (n : Nat) (hd : Tok) (w : World) : (W3c n hd w).heap.size = w.heap.size + 1 + 1 + 1 := by unfold W3c; rw [size_alloc1, size_alloc1, size_alloc1]
theorem W3c_below (n : Nat) (hd : Tok) (w : World) : Below w.heap.size w (W3c n hd w) := below3 w _ _ _
theorem chk_start (n : Nat) (hd : Tok) (w : World) :
    Below (w.heap.size + 1 + 1 + 1) (W3c n hd w) ((W3c n hd w).alloc (.cells #[.string hd.text, .int .i64 hd.fl, .int .i64 hd.fc, .int .i64 hd.bl, .int .i64 hd.bc] 209)) ∧
    RowAt ((W3c n hd w).alloc (.cells #[.string hd.text, .int .i64 hd.fl, .int .i64 hd.fc, .int .i64 hd.bl, .int .i64 hd.bc] 209)) (w.heap.size + 1 + 1 + 1) 0 hd ∧
    ∀ j, ((W3c n hd w).alloc (.cells #[.string hd.text, .int .i64 hd.fl, .int .i64 hd.fc, .int .i64 hd.bl, .int .i64 hd.bc] 209)).frozen? ⟨w.heap.size + 1 + 1 + 1, j, none⟩ = false := by
  have hs := W3c_size n hd w
  refine ⟨(Below.refl _ _).alloc (by omega) _, ⟨?_, ?_, ?_, ?_, ?_⟩, fun j => ?_⟩
  iterate 5
    · rw [World.cell?_alloc_at (hn := hs.symm)]; rfl
  · rw [World.frozen?_alloc_at (hn := hs.symm)]
theorem chk_cells (n : Nat) (hd : Tok) (w wr : World) (hb : Below (w.heap.size + 1 + 1 + 1) (W3c n hd w) wr) :
    wr.cell? ⟨w.heap.size, 2, none⟩ = some (.string ⟨(rowPt n).toArray⟩) ∧ wr.cell? ⟨w.heap.size + 1 + 1, 0, none⟩ = some (.int .i64 0) ∧ wr.cell? ⟨w.heap.size + 1 + 1, 1, none⟩ = some (.int .i64 0) ∧ wr.cell? ⟨w.heap.size + 1 + 1, 2, none⟩ = some (.int .i64 0) ∧
    ∀ j, wr.frozen? ⟨w.heap.size + 1 + 1, j, none⟩ = false := by
  refine ⟨?_, ?_, ?_, ?_, fun j => ?_⟩
  · rw [below_cell' hb _ _ (by omega)]
    unfold W3c
    rw [World.cell?_alloc_past (hn := by rw [size_alloc1, size_alloc1]; omega), World.cell?_alloc_past (hn := by rw [size_alloc1]; omega), World.cell?_alloc_at (hn := rfl)]; rfl
  iterate 3
    · rw [below_cell' hb _ _ (by omega)]
      unfold W3c
      rw [World.cell?_alloc_at (hn := by rw [size_alloc1, size_alloc1])]; rfl
  · rw [hb.frozen (p := ⟨w.heap.size + 1 + 1, j, none⟩) (by simp)]
    unfold W3c
    rw [World.frozen?_alloc_at (hn := by rw [size_alloc1, size_alloc1])]

theorem rowAt_set5 {w : World} {g : Nat} {v0 v1 v2 v3 v4 : Value} (h0 : w.cell? ⟨g, 0, none⟩ = some v0) (h1 : w.cell? ⟨g, 1, none⟩ = some v1) (h2 : w.cell? ⟨g, 2, none⟩ = some v2) (h3 : w.cell? ⟨g, 3, none⟩ = some v3) (h4 : w.cell? ⟨g, 4, none⟩ = some v4) (t : Tok) :
    RowAt (((((w.setCell ⟨g, 0, none⟩ (.string t.text)).setCell ⟨g, 1, none⟩ (.int .i64 t.fl)).setCell ⟨g, 2, none⟩ (.int .i64 t.fc)).setCell ⟨g, 3, none⟩ (.int .i64 t.bl)).setCell ⟨g, 4, none⟩ (.int .i64 t.bc)) g 0 t :=
  ⟨cell_of_rows (cell_of_rows (cell_of_rows (cell_of_rows (cell_set_same h0) (by decide)) (by decide)) (by decide)) (by decide),
   cell_of_rows (cell_of_rows (cell_of_rows (cell_set_same (cell_of_rows h1 (by decide))) (by decide)) (by decide)) (by decide),
   cell_of_rows (cell_of_rows (cell_set_same (cell_of_rows (cell_of_rows h2 (by decide)) (by decide))) (by decide)) (by decide),
   cell_of_rows (cell_set_same (cell_of_rows (cell_of_rows (cell_of_rows h3 (by decide)) (by decide)) (by decide))) (by decide),
   cell_set_same (cell_of_rows (cell_of_rows (cell_of_rows (cell_of_rows h4 (by decide)) (by decide)) (by decide)) (by decide))⟩
theorem cell_new (w : World) (c : Array Value) (t : TypeId) (j : Nat) (u : Value) (h : c[j]? = some u) : ((w.alloc (.cells c t)).drew).cell? ⟨w.heap.size, j, none⟩ = some u := by
  show (w.alloc (.cells c t)).cell? ⟨w.heap.size, j, none⟩ = some u
  rw [World.cell?_alloc_at (hn := rfl)]; exact h
set_option maxRecDepth 100000 in
set_option maxHeartbeats 2000000 in
theorem checkParts_any (n : Nat) (hd : Tok) (v : Value) (parts : List Tok) (w : World) (hsl : SlAt w v parts) (ht : Tab w) (hlen : parts.length ≤ 5000) (hts : ∀ t ∈ parts, t.text.size ≤ maxLen) :
    Calls Tryd.prog 177 #[.agg (rowV n), .agg (tokC hd).toArray, v] w fun e' w' => Below w.heap.size w w' ∧
      ((chkGo (rowPt n) 0 hd parts = none ∧ e' = .returned (.agg #[.int .i64 0, .int .i64 0, .int .i64 0])) ∨ ∃ l c, chkGo (rowPt n) 0 hd parts = some (l, c) ∧ e' = .returned (.agg #[.int .i64 l, .int .i64 c, .int .i64 4])) := by
  obtain ⟨a, cap, rfl, hcap, hrow⟩ := hsl
  have HRow := hide hrow
  clear hrow
  simp only [rowV, tokC]
  go_enter Tryd.func177, Tryd.ntmps177
  go_wp2_with fail
  go_loopw [13] (fun i wr => ∃ (k : Nat) (last : Tok), k ≤ parts.length ∧ i = .int .i64 k ∧ Below (w.heap.size + 1 + 1 + 1) (W3c n hd w) wr ∧ RowAt wr (w.heap.size + 1 + 1 + 1) 0 last ∧ (∀ j, wr.frozen? ⟨w.heap.size + 1 + 1 + 1, j, none⟩ = false) ∧ Hid (chkGo (rowPt n) k last (parts.drop k) = chkGo (rowPt n) 0 hd parts)) (fun i _ => parts.length - (intOf i).toNat)
  case atStart => exact ⟨0, hd, Nat.zero_le _, rfl, (chk_start n hd w).1, (chk_start n hd w).2.1, (chk_start n hd w).2.2, rfl⟩
  case round =>
    obtain ⟨k, last, hk, rfl, hbw, hlast, hlf, HG⟩ := hrel
    obtain ⟨m0, f0, f1, f2, ff⟩ := chk_cells n hd w wr hbw
    have hB : Hid (Below w.heap.size w wr) := (W3c_below n hd w).trans (hbw.mono (by omega))
    have hz : w.heap.size + 1 + 1 + 1 < wr.heap.size := block_lt_of_cell hlast.r0
    have hz0 : w.heap.size < wr.heap.size := by omega
    have hz2 : w.heap.size + 1 + 1 < wr.heap.size := by omega
    obtain ⟨q0, q1, q2, q3, q4⟩ := hlast
    have HBw := hide hbw
    clear hbw
    by_cases hlt : k < parts.length
    · have hne : parts ≠ [] := by intro e; rw [e] at hlt; simp at hlt
      obtain ⟨g, off, rfl, hr⟩ := HRow.out hne
      have hrk := (hr k parts[k] (by simp [hlt])).below hB.out
      obtain ⟨t0, t1, t2, t3, t4⟩ := hrk
      have hlt' : (k : Int) < (parts.length : Int) := by omega
      have HTx := hide (hts parts[k] (by simp))
      have HDr : Hid (parts.drop k = parts[k] :: parts.drop (k + 1)) := List.drop_eq_getElem_cons hlt
      generalize parts[k] = t at *
      clear HRow hr
      have hTab : ∀ o, Tab ((wr.alloc o).drew) := fun o => ht.below ht.pos ((hB.out.alloc hB.out.size o).drew)
      by_cases hpl : k < (rowPt n).length
      · obtain ⟨c, hc⟩ : ∃ c, (rowPt n)[k]? = some c := ⟨(rowPt n)[k], by simp [hpl]⟩
        have hck := rowPt_kind n k c hc
        have hix : ∀ h, (⟨(rowPt n).toArray⟩ : ByteArray)[k]'h = c := fun h => by
          have : (rowPt n)[k]'hpl = c := by rw [List.getElem?_eq_getElem hpl] at hc; exact Option.some.inj hc
          exact this
        have hcd : (rowPt n).getD k 0 = c := by rw [List.getD_eq_getElem?_getD, hc]; rfl
        have HF := hide (fun o => fits_any c t.text ((wr.alloc o).drew) hck (hTab o) HTx.out)
        have hpl' : ¬ ((rowPt n).length : Int) ≤ (k : Int) := by omega
        have hpl2 : (k : Int) < ((rowPt n).length : Int) := by omega
        have hsz : (⟨(rowPt n).toArray⟩ : ByteArray).size = (rowPt n).length := by simp [ByteArray.size]
        have hc3 : ((c.toNat : Int)) ≤ 255 := by have := c.toNat_lt; omega
        cases hfit : fitK c t.text
        · have hgo : chkGo (rowPt n) 0 hd parts = some (t.fl, t.fc) := by rw [← HG.out, HDr.out, chkGo, if_neg (by omega), hcd, hfit]; rfl
          have HGo := hide hgo
          rw [hfit] at HF
          clear hTab hck hc hcd hfit hgo HG HDr HTx
          go_wp2_with fail
          refine still_tail 13 (by kernel_rfl) (by kernel_rfl) ?_
          simp only [List.take_succ_cons, List.take_zero, List.drop_succ_cons, List.drop_zero]
          repeat still_step
          refine wpStill_nil ?_
          go_wp2_with fail
          refine (unhide HF _).mono ?_
          rintro e w2 ⟨rfl, hb2⟩
          have hb2' : Below (wr.heap.size + 1) ((wr.alloc (.cells #[.string t.text, .int .i64 t.fl, .int .i64 t.fc, .int .i64 t.bl, .int .i64 t.bc] 209)).drew) w2 := hb2.mono (by show wr.heap.size + 1 ≤ (wr.alloc _).heap.size; rw [size_alloc1]; omega)
          have x0 : w2.cell? ⟨wr.heap.size, 0, none⟩ = some (.string t.text) := by rw [below_cell' hb2' _ _ (by omega)]; exact cell_new wr _ _ 0 _ rfl
          have x1 : w2.cell? ⟨wr.heap.size, 1, none⟩ = some (.int .i64 t.fl) := by rw [below_cell' hb2' _ _ (by omega)]; exact cell_new wr _ _ 1 _ rfl
          have x2 : w2.cell? ⟨wr.heap.size, 2, none⟩ = some (.int .i64 t.fc) := by rw [below_cell' hb2' _ _ (by omega)]; exact cell_new wr _ _ 2 _ rfl
          have x3 : w2.cell? ⟨wr.heap.size, 3, none⟩ = some (.int .i64 t.bl) := by rw [below_cell' hb2' _ _ (by omega)]; exact cell_new wr _ _ 3 _ rfl
          have x4 : w2.cell? ⟨wr.heap.size, 4, none⟩ = some (.int .i64 t.bc) := by rw [below_cell' hb2' _ _ (by omega)]; exact cell_new wr _ _ 4 _ rfl
          have hbo : ∀ m j, m < wr.heap.size → w2.cell? ⟨m, j, none⟩ = wr.cell? ⟨m, j, none⟩ := fun m j hm => (below_cell' hb2' m j (by omega)).trans (cellD wr _ hm j)
          have hfo : ∀ m j, m < wr.heap.size → w2.frozen? ⟨m, j, none⟩ = wr.frozen? ⟨m, j, none⟩ := fun m j hm => (hb2'.frozen (p := ⟨m, j, none⟩) (by show m < _; omega)).trans (World.frozen?_of_block (w := wr) (Below.heap_alloc wr _ m hm))
          have HB2 : Hid (Below wr.heap.size wr w2) := ((Below.refl _ _).alloc (Nat.le_refl _) _).drew.trans (hb2'.mono (by omega))
          clear hb2 hb2' HF
          have y0 := (hbo _ 0 hz2).trans f0
          have y1 := (hbo _ 1 hz2).trans f1
          have y2 := (hbo _ 2 hz2).trans f2
          have yf : ∀ j, w2.frozen? ⟨w.heap.size + 1 + 1, j, none⟩ = false := fun j => (hfo _ j hz2).trans (ff j)
          clear hbo hfo
          go_wp2_with fail
          refine bodyPost_ret (v := .agg #[.int .i64 t.fl, .int .i64 t.fc, .int .i64 4]) (by simp [results, Tryd.results177, go_sem, y0, y1, y2]) rfl ⟨?_, .inr ⟨t.fl, t.fc, HGo.out, rfl⟩⟩
          exact (((hB.out.trans (HB2.out.mono hB.out.size)).setCell (by show w.heap.size ≤ w.heap.size + 1 + 1; omega) _).setCell (by show w.heap.size ≤ w.heap.size + 1 + 1; omega) _).setCell (by show w.heap.size ≤ w.heap.size + 1 + 1; omega) _
        · have HG' : Hid (chkGo (rowPt n) (k + 1) t (parts.drop (k + 1)) = chkGo (rowPt n) 0 hd parts) := by rw [← HG.out, HDr.out, chkGo, if_neg (by omega), hcd, hfit]; rfl
          rw [hfit] at HF
          clear hTab hck hc hcd hfit HG HDr HTx
          go_wp2_with fail
          refine still_tail 13 (by kernel_rfl) (by kernel_rfl) ?_
          simp only [List.take_succ_cons, List.take_zero, List.drop_succ_cons, List.drop_zero]
          repeat still_step
          refine wpStill_nil ?_
          go_wp2_with fail
          refine (unhide HF _).mono ?_
          rintro e w2 ⟨rfl, hb2⟩
          have hb2' : Below (wr.heap.size + 1) ((wr.alloc (.cells #[.string t.text, .int .i64 t.fl, .int .i64 t.fc, .int .i64 t.bl, .int .i64 t.bc] 209)).drew) w2 := hb2.mono (by show wr.heap.size + 1 ≤ (wr.alloc _).heap.size; rw [size_alloc1]; omega)
          have x0 : w2.cell? ⟨wr.heap.size, 0, none⟩ = some (.string t.text) := by rw [below_cell' hb2' _ _ (by omega)]; exact cell_new wr _ _ 0 _ rfl
          have x1 : w2.cell? ⟨wr.heap.size, 1, none⟩ = some (.int .i64 t.fl) := by rw [below_cell' hb2' _ _ (by omega)]; exact cell_new wr _ _ 1 _ rfl
          have x2 : w2.cell? ⟨wr.heap.size, 2, none⟩ = some (.int .i64 t.fc) := by rw [below_cell' hb2' _ _ (by omega)]; exact cell_new wr _ _ 2 _ rfl
          have x3 : w2.cell? ⟨wr.heap.size, 3, none⟩ = some (.int .i64 t.bl) := by rw [below_cell' hb2' _ _ (by omega)]; exact cell_new wr _ _ 3 _ rfl
          have x4 : w2.cell? ⟨wr.heap.size, 4, none⟩ = some (.int .i64 t.bc) := by rw [below_cell' hb2' _ _ (by omega)]; exact cell_new wr _ _ 4 _ rfl
          have hbo : ∀ m j, m < wr.heap.size → w2.cell? ⟨m, j, none⟩ = wr.cell? ⟨m, j, none⟩ := fun m j hm => (below_cell' hb2' m j (by omega)).trans (cellD wr _ hm j)
          have hfo : ∀ m j, m < wr.heap.size → w2.frozen? ⟨m, j, none⟩ = wr.frozen? ⟨m, j, none⟩ := fun m j hm => (hb2'.frozen (p := ⟨m, j, none⟩) (by show m < _; omega)).trans (World.frozen?_of_block (w := wr) (Below.heap_alloc wr _ m hm))
          have HB2 : Hid (Below wr.heap.size wr w2) := ((Below.refl _ _).alloc (Nat.le_refl _) _).drew.trans (hb2'.mono (by omega))
          clear hb2 hb2' HF
          have y0 := (hbo _ 0 hz).trans q0
          have y1 := (hbo _ 1 hz).trans q1
          have y2 := (hbo _ 2 hz).trans q2
          have y3 := (hbo _ 3 hz).trans q3
          have y4 := (hbo _ 4 hz).trans q4
          have yf : ∀ j, w2.frozen? ⟨w.heap.size + 1 + 1 + 1, j, none⟩ = false := fun j => (hfo _ j hz).trans (hlf j)
          clear hbo hfo
          go_wp2_with fail
          have HBx : Hid (Below (w.heap.size + 1 + 1 + 1) (W3c n hd w) w2) := HBw.out.trans (HB2.out.mono (by omega))
          refine ⟨⟨k + 1, t, by omega, by go_num, ?_, rowAt_set5 y0 y1 y2 y3 y4 t, fun j => by simp only [World.frozen?_setCell]; exact yf j, HG'⟩, by simp [intOf]; omega⟩
          exact ((((HBx.out.setCell (Nat.le_refl _) _).setCell (Nat.le_refl _) _).setCell (Nat.le_refl _) _).setCell (Nat.le_refl _) _).setCell (Nat.le_refl _) _
      · have hgo : chkGo (rowPt n) 0 hd parts = some (t.fl, t.fc) := by rw [← HG.out, HDr.out, chkGo, if_pos (by omega)]
        have HGo := hide hgo
        have hpl' : ((rowPt n).length : Int) ≤ (k : Int) := by omega
        have hsz : (⟨(rowPt n).toArray⟩ : ByteArray).size = (rowPt n).length := by simp [ByteArray.size]
        clear hTab hgo HG HDr HTx hpl
        go_wp2_with fail
        go_quiet (fail)
        go_wp2_with fail
        refine bodyPost_ret (v := .agg #[.int .i64 t.fl, .int .i64 t.fc, .int .i64 4]) (by simp [results, Tryd.results177, go_sem, f0, f1, f2, hz2]) rfl ⟨?_, .inr ⟨t.fl, t.fc, HGo.out, rfl⟩⟩
        exact (((below_drewN (hB.out.alloc hB.out.size _) nq).setCell (by show w.heap.size ≤ w.heap.size + 1 + 1; omega) _).setCell (by show w.heap.size ≤ w.heap.size + 1 + 1; omega) _).setCell (by show w.heap.size ≤ w.heap.size + 1 + 1; omega) _
    · have hkn : k = parts.length := by omega
      subst hkn
      have hsz : (⟨(rowPt n).toArray⟩ : ByteArray).size = (rowPt n).length := by simp [ByteArray.size]
      clear HRow
      by_cases hpl : parts.length < (rowPt n).length
      · have hgo : chkGo (rowPt n) 0 hd parts = some (last.bl, last.bc) := by rw [← HG.out, List.drop_of_length_le (Nat.le_refl _), chkGo, if_pos hpl]
        have HGo := hide hgo
        have hpl' : (parts.length : Int) < ((rowPt n).length : Int) := by omega
        clear hgo HG
        go_wp2_with fail
        refine bodyPost_ret (v := .agg #[.int .i64 last.bl, .int .i64 last.bc, .int .i64 4]) (by simp [results, Tryd.results177, go_sem, f0, f1, f2]) rfl ⟨?_, .inr ⟨last.bl, last.bc, HGo.out, rfl⟩⟩
        exact ((hB.out.setCell (by show w.heap.size ≤ w.heap.size + 1 + 1; omega) _).setCell (by show w.heap.size ≤ w.heap.size + 1 + 1; omega) _).setCell (by show w.heap.size ≤ w.heap.size + 1 + 1; omega) _
      · have hgo : chkGo (rowPt n) 0 hd parts = none := by rw [← HG.out, List.drop_of_length_le (Nat.le_refl _), chkGo, if_neg hpl]
        have HGo := hide hgo
        have hpl' : ¬ (parts.length : Int) < ((rowPt n).length : Int) := by omega
        clear hgo HG
        go_wp2_with fail
        refine bodyPost_ret (v := .agg #[.int .i64 0, .int .i64 0, .int .i64 0]) (by simp [results, Tryd.results177, go_sem, f0, f1, f2]) rfl ⟨?_, .inl ⟨HGo.out, rfl⟩⟩
        exact ((hB.out.setCell (by show w.heap.size ≤ w.heap.size + 1 + 1; omega) _).setCell (by show w.heap.size ≤ w.heap.size + 1 + 1; omega) _).setCell (by show w.heap.size ≤ w.heap.size + 1 + 1; omega) _
end Go.Proofs.YtmmflekajbeamaaDoor

namespace Go.Proofs.YtmmflekajbeamaaDoor
open Go.RowKit Go.Maps

/-- What has been read of a text. -/
structure PS where
  words : List Int
  labels : List (List UInt8 × Int)
  uses : List (Nat × Tok)
def ps0 : PS := ⟨[], [], []⟩

/-- What the parts of an instruction give: registers, number, uses. -/
structure LS where
  r : Nat → Int
  k : Int
  u : List (Nat × Tok)
def regV (l : List UInt8) : Int := ((l.getD 1 0).toNat : Int) - 48
def layP (n nw i : Nat) (t : Tok) (s : LS) : LS :=
  if (rowPt n).getD i 0 = 114 then { s with r := fun j => if j = i then regV t.text.data.toList else s.r j }
  else if numOK t.text.data.toList = true then { s with k := valD t.text.data.toList }
  else { s with u := s.u ++ [(nw, t)] }
def layGo (n nw : Nat) : Nat → List Tok → LS → LS
  | _, [], s => s
  | i, t :: ts, s => layGo n nw (i + 1) ts (layP n nw i t s)
def wordOf (n : Nat) (s : LS) : Int := if rowOp n = -1 then s.k else rowOp n * 16777216 + s.r 0 * 1048576 + s.r 1 * 65536 + s.r 2 * 4096 + s.k
def ls0 (u : List (Nat × Tok)) : LS := ⟨fun _ => 0, 0, u⟩
def layS (n : Nat) (parts : List Tok) (ps : PS) : PS :=
  { ps with words := ps.words ++ [wordOf n (layGo n ps.words.length 0 parts (ls0 ps.uses))], uses := (layGo n ps.words.length 0 parts (ls0 ps.uses)).u }
def rowIx (l : List UInt8) : Option Nat := (List.range 12).find? fun j => rowNm j == l
def rdIns (ps : PS) (h : Tok) (parts : List Tok) : PS ⊕ (Int × Int × Int) :=
  match rowIx h.text.data.toList with
  | none => .inr (h.fl, h.fc, 4)
  | some n => match chkGo (rowPt n) 0 h parts with
    | some (l, c) => .inr (l, c, 4)
    | none => if ps.words.length = 128 then .inr (h.fl, h.fc, 5) else .inl (layS n parts ps)
def rdRest (ps : PS) : List Tok → PS ⊕ (Int × Int × Int)
  | [] => .inl ps
  | h :: parts => rdIns ps h parts
/-- A token that is a label: its name. -/
def labN (t : Tok) : ByteArray := t.text.extract 0 (t.text.size - 1)
def labB (t : Tok) : Bool := colB t.text.data.toList && nmI (labN t)
def rdLine (ps : PS) : List Tok → PS ⊕ (Int × Int × Int)
  | [] => .inl ps
  | t :: ts => if labB t = true then (if (ps.labels.lookup (labN t).data.toList).isSome = true then .inr (t.fl, t.fc, 6) else rdRest { ps with labels := ps.labels ++ [((labN t).data.toList, (ps.words.length : Int))] } ts) else rdRest ps (t :: ts)
def rdAll (ps : PS) : List (List Tok) → PS ⊕ (Int × Int × Int)
  | [] => .inl ps
  | L :: Ls => match rdLine ps L with | .inl ps' => rdAll ps' Ls | .inr f => .inr f
def fillGo (lb : List (List UInt8 × Int)) : List (Nat × Tok) → List Int → List Int ⊕ (Int × Int × Int)
  | [], ws => .inl ws
  | (i, t) :: us, ws => match lb.lookup t.text.data.toList with | none => .inr (t.fl, t.fc, 7) | some v => fillGo lb us (ws.set i (ws.getD i 0 + v))

def useC (u : Nat × Tok) : List Value := .int .i64 (u.1 : Int) :: tokC u.2
def useCs (l : List (Nat × Tok)) : List Value := l.flatMap useC
theorem useCs_snoc (l : List (Nat × Tok)) (u : Nat × Tok) : useCs (l ++ [u]) = useCs l ++ useC u := by simp [useCs]
def intCs (l : List Int) : List Value := l.map (Value.int .i64)
theorem intCs_snoc (l : List Int) (x : Int) : intCs (l ++ [x]) = intCs l ++ [.int .i64 x] := by simp [intCs]
/-- A map's datum tells the labels. -/
def LabOK (D : DataW Unit) (l : List (List UInt8 × Int)) : Prop :=
  ∀ k : List UInt8, Maps.has D (.string k) = (l.lookup k).isSome ∧ ∀ v, l.lookup k = some v → D.atKey (.string k) (.lit (.int .i64 0)) = .lit (.int .i64 v)

/-- What has been read, in memory: block N; all of it lies from block B on. -/
structure ProgAt (B N : Nat) (ps : PS) (vw : Value) (b : Nat) (vu : Value) (w : World) : Prop where
  c0 : w.cell? ⟨N, 0, none⟩ = some vw
  c1 : w.cell? ⟨N, 1, none⟩ = some (.map (some b))
  c2 : w.cell? ⟨N, 2, none⟩ = some vu
  fz : ∀ i, w.frozen? ⟨N, i, none⟩ = false
  bN : B ≤ N
  bb : B ≤ b
  nw : ∀ g, vw.ownBlock = some g → g ≠ N
  nu : ∀ g, vu.ownBlock = some g → g ≠ N
  wd : w.ownsRow B 3 1 vw ps.words.length (intCs ps.words)
  us : w.ownsRow B 213 6 vu ps.uses.length (useCs ps.uses)
  mp : ∃ D : DataW Unit, w.ownsMap Tryd.prog 9 (plainElem Tryd.prog 3) b ps.labels.length D ∧ LabOK D ps.labels

theorem map_of {w : World} {b n : Nat} {D : DataW Unit} {k : TypeId} {R : Value → Option (DataW Unit × List MemPlace)} (h : w.ownsMap Tryd.prog k R b n D) : ∃ es cl, w.heap[b]? = some (.map es cl) := by
  obtain ⟨es, cl, hb, _⟩ := h
  exact ⟨es, cl, hb⟩
theorem map_keep {w w' : World} {b n : Nat} {D : DataW Unit} {k : TypeId} {R : Value → Option (DataW Unit × List MemPlace)} (h : w.ownsMap Tryd.prog k R b n D) (hk : w'.heap[b]? = w.heap[b]?) : w'.ownsMap Tryd.prog k R b n D := by
  obtain ⟨es, cl, hb, r⟩ := h
  exact ⟨es, cl, hk.trans hb, r⟩
theorem ProgAt.nlt {B N : Nat} {ps : PS} {vw : Value} {b : Nat} {vu : Value} {w : World} (h : ProgAt B N ps vw b vu w) : N < w.heap.size := block_lt_of_cell h.c0
theorem ProgAt.blt {B N : Nat} {ps : PS} {vw : Value} {b : Nat} {vu : Value} {w : World} (h : ProgAt B N ps vw b vu w) : b < w.heap.size := by
  obtain ⟨D, hm, _⟩ := h.mp
  exact hm.lt
theorem row_lt {w : World} {B : Nat} {e : TypeId} {k : Nat} {v : Value} {n : Nat} {xs : List Value} (h : w.ownsRow B e k v n xs) : ∀ g, v.ownBlock = some g → B ≤ g ∧ g < w.heap.size := fun g hg => by
  obtain ⟨hb, c, t, fr, hc⟩ := ownsRow_cells h g hg
  exact ⟨hb, (Array.getElem?_eq_some_iff.1 hc).1⟩
/-- The blocks that it lies in. -/
def InP (N : Nat) (vw : Value) (b : Nat) (vu : Value) (g : Nat) : Prop := g = N ∨ g = b ∨ vw.ownBlock = some g ∨ vu.ownBlock = some g
theorem ProgAt.inlt {B N : Nat} {ps : PS} {vw : Value} {b : Nat} {vu : Value} {w : World} (h : ProgAt B N ps vw b vu w) {g : Nat} (hg : InP N vw b vu g) : B ≤ g ∧ g < w.heap.size := by
  rcases hg with rfl | rfl | hg | hg
  · exact ⟨h.bN, h.nlt⟩
  · exact ⟨h.bb, h.blt⟩
  · exact row_lt h.wd g hg
  · exact row_lt h.us g hg
theorem ProgAt.kept {B N : Nat} {ps : PS} {vw : Value} {b : Nat} {vu : Value} {w w' : World} (h : ProgAt B N ps vw b vu w) (hk : ∀ g, InP N vw b vu g → w'.heap[g]? = w.heap[g]?) : ProgAt B N ps vw b vu w' := by
  have hN := hk N (.inl rfl)
  refine ⟨(World.cell?_of_block hN).trans h.c0, (World.cell?_of_block hN).trans h.c1, (World.cell?_of_block hN).trans h.c2, fun i => (World.frozen?_of_block hN).trans (h.fz i), h.bN, h.bb, h.nw, h.nu,
    ownsRow_keep h.wd (fun g hg => hk g (.inr (.inr (.inl hg)))), ownsRow_keep h.us (fun g hg => hk g (.inr (.inr (.inr hg)))), ?_⟩
  obtain ⟨D, hm, hl⟩ := h.mp
  exact ⟨D, map_keep hm (hk b (.inr (.inl rfl))), hl⟩
theorem ProgAt.alloc {B N : Nat} {ps : PS} {vw : Value} {b : Nat} {vu : Value} {w : World} (h : ProgAt B N ps vw b vu w) (o : Obj) : ProgAt B N ps vw b vu (w.alloc o) :=
  h.kept fun g hg => Below.heap_alloc w o g (h.inlt hg).2
theorem ProgAt.drew {B N : Nat} {ps : PS} {vw : Value} {b : Nat} {vu : Value} {w : World} (h : ProgAt B N ps vw b vu w) : ProgAt B N ps vw b vu w.drew := h.kept fun _ _ => rfl
/-- A cell of another block is written. -/
theorem ProgAt.setOut {B N : Nat} {ps : PS} {vw : Value} {b : Nat} {vu : Value} {w : World} (h : ProgAt B N ps vw b vu w) {g : Nat} (hg : ¬ InP N vw b vu g) (i : Nat) (v : Value) : ProgAt B N ps vw b vu (w.setCell ⟨g, i, none⟩ v) :=
  h.kept fun _ hk => heap_set_other w v (fun e => hg (e ▸ hk))
/-- Nothing turns but new blocks. -/
theorem ProgAt.above {B N : Nat} {ps : PS} {vw : Value} {b : Nat} {vu : Value} {w w' : World} (h : ProgAt B N ps vw b vu w) (hb : Below w.heap.size w w') : ProgAt B N ps vw b vu w' :=
  h.kept fun g hg => hb.block g (h.inlt hg).2
/-- The kinds of its blocks part them. -/
theorem ProgAt.apart {B N : Nat} {ps : PS} {vw : Value} {b : Nat} {vu : Value} {w : World} (h : ProgAt B N ps vw b vu w) : N ≠ b ∧ vw.ownBlock ≠ some b ∧ vu.ownBlock ≠ some b ∧ (∀ g, vw.ownBlock = some g → vu.ownBlock ≠ some g) := by
  obtain ⟨D, hm, _⟩ := h.mp
  obtain ⟨es, cl, hb⟩ := map_of hm
  refine ⟨fun e => ?_, fun e => ?_, fun e => ?_, fun g e e2 => ?_⟩
  · obtain ⟨c, t, fr, hc⟩ := cells_of_cell h.c0
    rw [e, hb] at hc; cases hc
  · obtain ⟨_, c, t, fr, hc⟩ := ownsRow_cells h.wd b e
    rw [hb] at hc; cases hc
  · obtain ⟨_, c, t, fr, hc⟩ := ownsRow_cells h.us b e
    rw [hb] at hc; cases hc
  · obtain ⟨c1, t1⟩ := ownsRow_kind h.wd g e
    obtain ⟨c2, t2⟩ := ownsRow_kind h.us g e2
    rw [t1] at t2
    cases t2

/-- Behind an append to the uses, and the store of the new slice. -/
theorem ProgAt.appU {B N : Nat} {ps : PS} {vw : Value} {b : Nat} {vu : Value} {w w1 : World} (h : ProgAt B N ps vw b vu w) (u : Nat × Tok) (g cap : Nat)
    (ho : w1.ownsRow B 213 6 (.slice (some ⟨g, 0, none⟩) (ps.uses.length + 1) cap) (ps.uses.length + 1) (useCs ps.uses ++ useC u))
    (hg : w.grownBy w1 vu.ownBlock) (ha : vu.ownBlock = some g ∨ w.heap.size ≤ g) :
    ProgAt B N { ps with uses := ps.uses ++ [u] } vw b (.slice (some ⟨g, 0, none⟩) (ps.uses.length + 1) cap) (w1.setCell ⟨N, 2, none⟩ (.slice (some ⟨g, 0, none⟩) (ps.uses.length + 1) cap)) := by
  obtain ⟨a1, a2, a3, a4⟩ := h.apart
  have hk : ∀ k, k < w.heap.size → vu.ownBlock ≠ some k → w1.heap[k]? = w.heap[k]? := fun k hk hn => hg.block k hk (fun e => hn e.symm)
  have hN1 := hk N h.nlt (fun e => h.nu N e rfl)
  have k1 : ∀ j, w1.cell? ⟨N, j, none⟩ = w.cell? ⟨N, j, none⟩ := fun j => World.cell?_of_block hN1
  have k2 : ∀ j, w1.frozen? ⟨N, j, none⟩ = w.frozen? ⟨N, j, none⟩ := fun j => World.frozen?_of_block hN1
  have hgN : g ≠ N := by
    rcases ha with ha | ha
    · exact h.nu g ha
    · have := h.nlt; omega
  generalize hv : Value.slice (some ⟨g, 0, none⟩) (ps.uses.length + 1) cap = v at *
  have hvb : v.ownBlock = some g := by rw [← hv]; rfl
  have hh : ∀ k, k ≠ N → (w1.setCell ⟨N, 2, none⟩ v).heap[k]? = w1.heap[k]? := fun k hk => heap_set_other _ _ hk
  refine ⟨cell_of_rows ((k1 0).trans h.c0) (by decide), cell_of_rows ((k1 1).trans h.c1) (by decide), cell_set_same ((k1 2).trans h.c2), fun i => by rw [World.frozen?_setCell, k2]; exact h.fz i, h.bN, h.bb, h.nw,
    fun k hk => by rw [hvb] at hk; cases hk; exact hgN, ?_, ?_, ?_⟩
  · exact ownsRow_keep h.wd (fun k hk' => (hh k (h.nw k hk')).trans (hk k (row_lt h.wd k hk').2 (a4 k hk')))
  · show World.ownsRow _ _ _ _ _ _ _
    rw [useCs_snoc, List.length_append, List.length_singleton]
    exact ownsRow_keep ho (fun k hk => by rw [hvb] at hk; cases hk; exact hh g hgN)
  · obtain ⟨D, hm, hl⟩ := h.mp
    exact ⟨D, map_keep hm ((hh b (fun e => a1 e.symm)).trans (hk b h.blt a3)), hl⟩
/-- Behind an append to the words, and the store of the new slice. -/
theorem ProgAt.appW {B N : Nat} {ps : PS} {vw : Value} {b : Nat} {vu : Value} {w w1 : World} (h : ProgAt B N ps vw b vu w) (x : Int) (g cap : Nat)
    (ho : w1.ownsRow B 3 1 (.slice (some ⟨g, 0, none⟩) (ps.words.length + 1) cap) (ps.words.length + 1) (intCs ps.words ++ [.int .i64 x]))
    (hg : w.grownBy w1 vw.ownBlock) (ha : vw.ownBlock = some g ∨ w.heap.size ≤ g) :
    ProgAt B N { ps with words := ps.words ++ [x] } (.slice (some ⟨g, 0, none⟩) (ps.words.length + 1) cap) b vu (w1.setCell ⟨N, 0, none⟩ (.slice (some ⟨g, 0, none⟩) (ps.words.length + 1) cap)) := by
  obtain ⟨a1, a2, a3, a4⟩ := h.apart
  have hk : ∀ k, k < w.heap.size → vw.ownBlock ≠ some k → w1.heap[k]? = w.heap[k]? := fun k hk hn => hg.block k hk (fun e => hn e.symm)
  have hN1 := hk N h.nlt (fun e => h.nw N e rfl)
  have k1 : ∀ j, w1.cell? ⟨N, j, none⟩ = w.cell? ⟨N, j, none⟩ := fun j => World.cell?_of_block hN1
  have k2 : ∀ j, w1.frozen? ⟨N, j, none⟩ = w.frozen? ⟨N, j, none⟩ := fun j => World.frozen?_of_block hN1
  have hgN : g ≠ N := by
    rcases ha with ha | ha
    · exact h.nw g ha
    · have := h.nlt; omega
  generalize hv : Value.slice (some ⟨g, 0, none⟩) (ps.words.length + 1) cap = v at *
  have hvb : v.ownBlock = some g := by rw [← hv]; rfl
  have hh : ∀ k, k ≠ N → (w1.setCell ⟨N, 0, none⟩ v).heap[k]? = w1.heap[k]? := fun k hk => heap_set_other _ _ hk
  refine ⟨cell_set_same ((k1 0).trans h.c0), cell_of_rows ((k1 1).trans h.c1) (by decide), cell_of_rows ((k1 2).trans h.c2) (by decide), fun i => by rw [World.frozen?_setCell, k2]; exact h.fz i, h.bN, h.bb,
    fun k hk => by rw [hvb] at hk; cases hk; exact hgN, h.nu, ?_, ?_, ?_⟩
  · show World.ownsRow _ _ _ _ _ _ _
    rw [intCs_snoc, List.length_append, List.length_singleton]
    exact ownsRow_keep ho (fun k hk => by rw [hvb] at hk; cases hk; exact hh g hgN)
  · exact ownsRow_keep h.us (fun k hk' => (hh k (h.nu k hk')).trans (hk k (row_lt h.us k hk').2 (fun e => a4 k e hk')))
  · obtain ⟨D, hm, hl⟩ := h.mp
    exact ⟨D, map_keep hm ((hh b (fun e => a1 e.symm)).trans (hk b h.blt a2)), hl⟩
/-- What turned by an append and a store, below B. -/
theorem ProgAt.belowApp {B N : Nat} {w0 w w1 : World} {row : Option Nat} (hb : Below B w0 w) (hB : B ≤ w.heap.size) (hN : B ≤ N) (hg : w.grownBy w1 row) (hr : ∀ k, row = some k → B ≤ k) (i : Nat) (v : Value) : Below B w0 (w1.setCell ⟨N, i, none⟩ v) :=
  (hb.grown hg hB hr).setCell hN v
/-- What a call leaves that turns nothing but what has been read: the blocks that it lay in, and new ones. -/
structure PFr (B N b : Nat) (vw vu vw' vu' : Value) (w w' : World) : Prop where
  below : Below B w w'
  out : ∀ g, g < w.heap.size → ¬ InP N vw b vu g → w'.heap[g]? = w.heap[g]?
  new : ∀ g, InP N vw' b vu' g → InP N vw b vu g ∨ w.heap.size ≤ g
theorem PFr.refl (B N b : Nat) (vw vu : Value) (w : World) : PFr B N b vw vu vw vu w w := ⟨Below.refl _ _, fun _ _ _ => rfl, fun _ h => .inl h⟩
theorem PFr.above {B N b : Nat} {vw vu vw' vu' : Value} {w w1 w2 : World} (h : PFr B N b vw vu vw' vu' w w1) (hB : B ≤ w1.heap.size) (hb : Below w1.heap.size w1 w2) : PFr B N b vw vu vw' vu' w w2 :=
  ⟨h.below.trans (hb.mono hB), fun g hg hn => (hb.block g (Nat.lt_of_lt_of_le hg h.below.size)).trans (h.out g hg hn), h.new⟩
theorem PFr.of_below {B N b : Nat} {vw vu : Value} {w w' : World} (hB : B ≤ w.heap.size) (hb : Below w.heap.size w w') : PFr B N b vw vu vw vu w w' := (PFr.refl B N b vw vu w).above hB hb
theorem PFr.trans {B N b : Nat} {v1 u1 v2 u2 v3 u3 : Value} {w w1 w2 : World} (h : PFr B N b v1 u1 v2 u2 w w1) (k : PFr B N b v2 u2 v3 u3 w1 w2) : PFr B N b v1 u1 v3 u3 w w2 :=
  ⟨h.below.trans k.below, fun g hg hn => (k.out g (Nat.lt_of_lt_of_le hg h.below.size) (fun hi => by
      rcases h.new g hi with h1 | h1
      · exact hn h1
      · omega)).trans (h.out g hg hn),
   fun g hi => by
      rcases k.new g hi with h1 | h1
      · exact h.new g h1
      · exact .inr (Nat.le_trans h.below.size h1)⟩
theorem PFr.setOut {B N b : Nat} {vw vu vw' vu' : Value} {w w1 : World} (h : PFr B N b vw vu vw' vu' w w1) {g : Nat} (hB : B ≤ g) (hg : w.heap.size ≤ g) (i : Nat) (v : Value) : PFr B N b vw vu vw' vu' w (w1.setCell ⟨g, i, none⟩ v) :=
  ⟨h.below.setCell hB v, fun k hk hn => (heap_set_other w1 v (by omega)).trans (h.out k hk hn), h.new⟩
theorem PFr.app {B N b : Nat} {v0 u0 vw vu vw' vu' : Value} {w wr w1 : World} {row : Option Nat} (h : PFr B N b v0 u0 vw vu w wr) (hB : B ≤ wr.heap.size) (hBN : B ≤ N) (hg : wr.grownBy w1 row) (hr : ∀ k, row = some k → InP N vw b vu k ∧ B ≤ k)
    (hn : ∀ g, InP N vw' b vu' g → InP N vw b vu g ∨ wr.heap.size ≤ g) (i : Nat) (v : Value) : PFr B N b v0 u0 vw' vu' w (w1.setCell ⟨N, i, none⟩ v) := by
  refine h.trans ⟨ProgAt.belowApp (Below.refl _ _) hB hBN hg (fun k hk => (hr k hk).2) i v, fun g hlt hni => ?_, hn⟩
  exact (heap_set_other w1 v (fun e => hni (.inl e))).trans (hg.block g hlt (fun e => hni (hr g e.symm).1))
theorem infoUse : ∃ i, Tryd.prog.info? 213 = some i ∧ i.zero = some (.agg #[.int .i64 0, .string ⟨#[]⟩, .int .i64 0, .int .i64 0, .int .i64 0, .int .i64 0]) ∧ i.size = 6 ∧ i.bytes = 56 := by
  have h : (Tryd.prog.info? 213).map (fun i => (i.zero, i.size, i.bytes)) = some (some (.agg #[.int .i64 0, .string ⟨#[]⟩, .int .i64 0, .int .i64 0, .int .i64 0, .int .i64 0]), 6, 56) := by kernel_rfl
  cases hq : Tryd.prog.info? 213 with
  | none => rw [hq] at h; cases h
  | some i =>
    rw [hq] at h
    simp only [Option.map_some, Option.some.injEq, Prod.mk.injEq] at h
    exact ⟨i, rfl, h.1, h.2.1, h.2.2⟩
theorem infoInt : ∃ i, Tryd.prog.info? 3 = some i ∧ i.zero = some (.int .i64 0) ∧ i.size = 1 ∧ i.bytes = 8 := by
  have h : (Tryd.prog.info? 3).map (fun i => (i.zero, i.size, i.bytes)) = some (some (.int .i64 0), 1, 8) := by kernel_rfl
  cases hq : Tryd.prog.info? 3 with
  | none => rw [hq] at h; cases h
  | some i =>
    rw [hq] at h
    simp only [Option.map_some, Option.some.injEq, Prod.mk.injEq] at h
    exact ⟨i, rfl, h.1, h.2.1, h.2.2⟩
end Go.Proofs.YtmmflekajbeamaaDoor
