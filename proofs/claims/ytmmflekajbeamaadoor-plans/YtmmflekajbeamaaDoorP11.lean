/-
  An instruction's parts held against its row of the table (checkParts).
-/
import Derived.Test.YtmmflekajbeamaaDoorP07
namespace Go.Proofs.YtmmflekajbeamaaDoor
open Go.RowKit

/-- May a token be a part of the kind c (r, n, v)? -/
def fitK (c : UInt8) (s : ByteArray) : Bool := if c = 114 then regB s.data.toList else if c = 118 then fitB 4294967295 s else fitB 4095 s
theorem fits_any (c : UInt8) (s : ByteArray) (w : World) (hc : c = 114 ∨ c = 110 ∨ c = 118) (ht : Tab w) (hs : s.size ≤ maxLen) :
    Calls Tryd.prog 183 #[.int .i32 (c.toNat : Int), .string s] w fun e' w' => e' = .returned (.bool (fitK c s)) ∧ Below w.heap.size w w' := by
  rcases hc with rfl | rfl | rfl
  · refine (fits_reg s w hs).mono ?_
    rintro e w' ⟨rfl, rfl⟩
    exact ⟨rfl, Below.refl _ _⟩
  · exact fits_num 110 4095 s w (.inl ⟨rfl, rfl⟩) ht hs
  · exact fits_num 118 4294967295 s w (.inr ⟨rfl, rfl⟩) ht hs

/-- A token's five cells, from offset o of block g on. -/
structure RowAt (w : World) (g o : Nat) (t : Tok) : Prop where
  r0 : w.cell? ⟨g, o, none⟩ = some (.string t.text)
  r1 : w.cell? ⟨g, o + 1, none⟩ = some (.int .i64 t.fl)
  r2 : w.cell? ⟨g, o + 1 + 1, none⟩ = some (.int .i64 t.fc)
  r3 : w.cell? ⟨g, o + 1 + 1 + 1, none⟩ = some (.int .i64 t.bl)
  r4 : w.cell? ⟨g, o + 1 + 1 + 1 + 1, none⟩ = some (.int .i64 t.bc)
theorem RowAt.below {w w' : World} {g o : Nat} {t : Tok} (h : RowAt w g o t) (hb : Below w.heap.size w w') : RowAt w' g o t := by
  have hg : g < w.heap.size := block_lt_of_cell h.r0
  exact ⟨(below_cell' hb g _ hg).trans h.r0, (below_cell' hb g _ hg).trans h.r1, (below_cell' hb g _ hg).trans h.r2, (below_cell' hb g _ hg).trans h.r3, (below_cell' hb g _ hg).trans h.r4⟩
/-- A slice of tokens, wherever it begins. -/
def SlAt (w : World) (v : Value) (l : List Tok) : Prop :=
  ∃ a cap, v = .slice a l.length cap ∧ l.length ≤ cap ∧ (l ≠ [] → ∃ g off, a = some ⟨g, off, none⟩ ∧ ∀ i t, l[i]? = some t → RowAt w g (off + i * 5) t)
theorem SlAt.below {w w' : World} {v : Value} {l : List Tok} (h : SlAt w v l) (hb : Below w.heap.size w w') : SlAt w' v l := by
  obtain ⟨a, cap, hv, hc, h⟩ := h
  refine ⟨a, cap, hv, hc, fun hne => ?_⟩
  obtain ⟨g, off, ha, hr⟩ := h hne
  exact ⟨g, off, ha, fun i t hi => (hr i t hi).below hb⟩

/-- The first part that is wrong, too many or lacking: its place. -/
def chkGo (pt : List UInt8) : Nat → Tok → List Tok → Option (Int × Int)
  | i, last, [] => if i < pt.length then some (last.bl, last.bc) else none
  | i, _, t :: ts => if pt.length ≤ i then some (t.fl, t.fc) else if fitK (pt.getD i 0) t.text = false then some (t.fl, t.fc) else chkGo pt (i + 1) t ts

theorem rowPt_kind (n : Nat) (i : Nat) (c : UInt8) (h : (rowPt n)[i]? = some c) : c = 114 ∨ c = 110 ∨ c = 118 := by
  have hm : c ∈ rowPt n := List.mem_of_getElem? h
  match n, hm with
  | 0, hm => simp [rowPt] at hm
  | 1, hm => simp [rowPt] at hm; rcases hm with rfl | rfl <;> decide
  | 2, hm => simp [rowPt] at hm; subst hm; decide
  | 3, hm => simp [rowPt] at hm; subst hm; decide
  | 4, hm => simp [rowPt] at hm; subst hm; decide
  | 5, hm => simp [rowPt] at hm; subst hm; decide
  | 6, hm => simp [rowPt] at hm; rcases hm with rfl | rfl <;> decide
  | 7, hm => simp [rowPt] at hm; rcases hm with rfl | rfl <;> decide
  | 8, hm => simp [rowPt] at hm; rcases hm with rfl | rfl <;> decide
  | 9, hm => simp [rowPt] at hm; subst hm; decide
  | 10, hm => simp [rowPt] at hm; subst hm; decide
  | 11, hm => simp [rowPt] at hm; subst hm; decide
  | k + 12, hm => simp [rowPt] at hm
theorem rowPt_len (n : Nat) : (rowPt n).length ≤ 3 := by
  match n with
  | 0 | 1 | 2 | 3 | 4 | 5 | 6 | 7 | 8 | 9 | 10 | 11 => decide
  | k + 12 => simp [rowPt]

def W3c (n : Nat) (hd : Tok) (w : World) : World :=
  ((w.alloc (.cells #[.string ⟨(rowNm n).toArray⟩, .int .i64 (rowOp n), .string ⟨(rowPt n).toArray⟩] 198)).alloc (.cells #[.string hd.text, .int .i64 hd.fl, .int .i64 hd.fc, .int .i64 hd.bl, .int .i64 hd.bc] 209)).alloc (.cells #[.int .i64 0, .int .i64 0, .int .i64 0] 116)
theorem W3c_size (n : Nat) (hd : Tok) (w : World) : (W3c n hd w).heap.size = w.heap.size + 1 + 1 + 1 := by unfold W3c; rw [size_alloc1, size_alloc1, size_alloc1]
theorem W3c_below (n : Nat) (hd : Tok) (w : World) : Below w.heap.size w (W3c n hd w) := below3 w _ _ _
theorem chk_start (n : Nat) (hd : Tok) (w : World) :
    Below (w.heap.size + 1 + 1 + 1) (W3c n hd w) ((W3c n hd w).alloc (.cells #[.string hd.text, .int .i64 hd.fl, .int .i64 hd.fc, .int .i64 hd.bl, .int .i64 hd.bc] 209)) ∧
    RowAt ((W3c n hd w).alloc (.cells #[.string hd.text, .int .i64 hd.fl, .int .i64 hd.fc, .int .i64 hd.bl, .int .i64 hd.bc] 209)) (w.heap.size + 1 + 1 + 1) 0 hd ∧
    ∀ j, ((W3c n hd w).alloc (.cells #[.string hd.text, .int .i64 hd.fl, .int .i64 hd.fc, .int .i64 hd.bl, .int .i64 hd.bc] 209)).frozen? ⟨w.heap.size + 1 + 1 + 1, j, none⟩ = false := by
  have hs := W3c_size n hd w
  refine ⟨(Below.refl _ _).alloc (by omega) _, ⟨?_, ?_, ?_, ?_, ?_⟩, fun j => ?_⟩
  iterate 5
    · rw [World.cell?_alloc_at (hn := hs.symm)]; rfl
  · rw [World.frozen?_alloc_at (hn := hs.symm)]
theorem chk_cells (n : Nat) (hd : Tok) (w wr : World) (hb : Below (w.heap.size + 1 + 1 + 1) (W3c n hd w) wr) :
    wr.cell? ⟨w.heap.size, 2, none⟩ = some (.string ⟨(rowPt n).toArray⟩) ∧ wr.cell? ⟨w.heap.size + 1 + 1, 0, none⟩ = some (.int .i64 0) ∧ wr.cell? ⟨w.heap.size + 1 + 1, 1, none⟩ = some (.int .i64 0) ∧ wr.cell? ⟨w.heap.size + 1 + 1, 2, none⟩ = some (.int .i64 0) ∧
    ∀ j, wr.frozen? ⟨w.heap.size + 1 + 1, j, none⟩ = false := by
  refine ⟨?_, ?_, ?_, ?_, fun j => ?_⟩
  · rw [below_cell' hb _ _ (by omega)]
    unfold W3c
    rw [World.cell?_alloc_past (hn := by rw [size_alloc1, size_alloc1]; omega), World.cell?_alloc_past (hn := by rw [size_alloc1]; omega), World.cell?_alloc_at (hn := rfl)]; rfl
  iterate 3
    · rw [below_cell' hb _ _ (by omega)]
      unfold W3c
      rw [World.cell?_alloc_at (hn := by rw [size_alloc1, size_alloc1])]; rfl
  · rw [hb.frozen (p := ⟨w.heap.size + 1 + 1, j, none⟩) (by simp)]
    unfold W3c
    rw [World.frozen?_alloc_at (hn := by rw [size_alloc1, size_alloc1])]

theorem rowAt_set5 {w : World} {g : Nat} {v0 v1 v2 v3 v4 : Value} (h0 : w.cell? ⟨g, 0, none⟩ = some v0) (h1 : w.cell? ⟨g, 1, none⟩ = some v1) (h2 : w.cell? ⟨g, 2, none⟩ = some v2) (h3 : w.cell? ⟨g, 3, none⟩ = some v3) (h4 : w.cell? ⟨g, 4, none⟩ = some v4) (t : Tok) :
    RowAt (((((w.setCell ⟨g, 0, none⟩ (.string t.text)).setCell ⟨g, 1, none⟩ (.int .i64 t.fl)).setCell ⟨g, 2, none⟩ (.int .i64 t.fc)).setCell ⟨g, 3, none⟩ (.int .i64 t.bl)).setCell ⟨g, 4, none⟩ (.int .i64 t.bc)) g 0 t :=
  ⟨cell_of_rows (cell_of_rows (cell_of_rows (cell_of_rows (cell_set_same h0) (by decide)) (by decide)) (by decide)) (by decide),
   cell_of_rows (cell_of_rows (cell_of_rows (cell_set_same (cell_of_rows h1 (by decide))) (by decide)) (by decide)) (by decide),
   cell_of_rows (cell_of_rows (cell_set_same (cell_of_rows (cell_of_rows h2 (by decide)) (by decide))) (by decide)) (by decide),
   cell_of_rows (cell_set_same (cell_of_rows (cell_of_rows (cell_of_rows h3 (by decide)) (by decide)) (by decide))) (by decide),
   cell_set_same (cell_of_rows (cell_of_rows (cell_of_rows (cell_of_rows h4 (by decide)) (by decide)) (by decide)) (by decide))⟩
theorem cell_new (w : World) (c : Array Value) (t : TypeId) (j : Nat) (u : Value) (h : c[j]? = some u) : ((w.alloc (.cells c t)).drew).cell? ⟨w.heap.size, j, none⟩ = some u := by
  show (w.alloc (.cells c t)).cell? ⟨w.heap.size, j, none⟩ = some u
  rw [World.cell?_alloc_at (hn := rfl)]; exact h
set_option maxRecDepth 100000 in
set_option maxHeartbeats 2000000 in
theorem checkParts_any (n : Nat) (hd : Tok) (v : Value) (parts : List Tok) (w : World) (hsl : SlAt w v parts) (ht : Tab w) (hlen : parts.length ≤ 5000) (hts : ∀ t ∈ parts, t.text.size ≤ maxLen) :
    Calls Tryd.prog 177 #[.agg (rowV n), .agg (tokC hd).toArray, v] w fun e' w' => Below w.heap.size w w' ∧
      ((chkGo (rowPt n) 0 hd parts = none ∧ e' = .returned (.agg #[.int .i64 0, .int .i64 0, .int .i64 0])) ∨ ∃ l c, chkGo (rowPt n) 0 hd parts = some (l, c) ∧ e' = .returned (.agg #[.int .i64 l, .int .i64 c, .int .i64 4])) := by
  obtain ⟨a, cap, rfl, hcap, hrow⟩ := hsl
  have HRow := hide hrow
  clear hrow
  simp only [rowV, tokC]
  go_enter Tryd.func177, Tryd.ntmps177
  go_wp2_with fail
  go_loopw [13] (fun i wr => ∃ (k : Nat) (last : Tok), k ≤ parts.length ∧ i = .int .i64 k ∧ Below (w.heap.size + 1 + 1 + 1) (W3c n hd w) wr ∧ RowAt wr (w.heap.size + 1 + 1 + 1) 0 last ∧ (∀ j, wr.frozen? ⟨w.heap.size + 1 + 1 + 1, j, none⟩ = false) ∧ Hid (chkGo (rowPt n) k last (parts.drop k) = chkGo (rowPt n) 0 hd parts)) (fun i _ => parts.length - (intOf i).toNat)
  case atStart => exact ⟨0, hd, Nat.zero_le _, rfl, (chk_start n hd w).1, (chk_start n hd w).2.1, (chk_start n hd w).2.2, rfl⟩
  case round =>
    obtain ⟨k, last, hk, rfl, hbw, hlast, hlf, HG⟩ := hrel
    obtain ⟨m0, f0, f1, f2, ff⟩ := chk_cells n hd w wr hbw
    have hB : Hid (Below w.heap.size w wr) := (W3c_below n hd w).trans (hbw.mono (by omega))
    have hz : w.heap.size + 1 + 1 + 1 < wr.heap.size := block_lt_of_cell hlast.r0
    have hz0 : w.heap.size < wr.heap.size := by omega
    have hz2 : w.heap.size + 1 + 1 < wr.heap.size := by omega
    obtain ⟨q0, q1, q2, q3, q4⟩ := hlast
    have HBw := hide hbw
    clear hbw
    by_cases hlt : k < parts.length
    · have hne : parts ≠ [] := by intro e; rw [e] at hlt; simp at hlt
      obtain ⟨g, off, rfl, hr⟩ := HRow.out hne
      have hrk := (hr k parts[k] (by simp [hlt])).below hB.out
      obtain ⟨t0, t1, t2, t3, t4⟩ := hrk
      have hlt' : (k : Int) < (parts.length : Int) := by omega
      have HTx := hide (hts parts[k] (by simp))
      have HDr : Hid (parts.drop k = parts[k] :: parts.drop (k + 1)) := List.drop_eq_getElem_cons hlt
      generalize parts[k] = t at *
      clear HRow hr
      have hTab : ∀ o, Tab ((wr.alloc o).drew) := fun o => ht.below ht.pos ((hB.out.alloc hB.out.size o).drew)
      by_cases hpl : k < (rowPt n).length
      · obtain ⟨c, hc⟩ : ∃ c, (rowPt n)[k]? = some c := ⟨(rowPt n)[k], by simp [hpl]⟩
        have hck := rowPt_kind n k c hc
        have hix : ∀ h, (⟨(rowPt n).toArray⟩ : ByteArray)[k]'h = c := fun h => by
          have : (rowPt n)[k]'hpl = c := by rw [List.getElem?_eq_getElem hpl] at hc; exact Option.some.inj hc
          exact this
        have hcd : (rowPt n).getD k 0 = c := by rw [List.getD_eq_getElem?_getD, hc]; rfl
        have HF := hide (fun o => fits_any c t.text ((wr.alloc o).drew) hck (hTab o) HTx.out)
        have hpl' : ¬ ((rowPt n).length : Int) ≤ (k : Int) := by omega
        have hpl2 : (k : Int) < ((rowPt n).length : Int) := by omega
        have hsz : (⟨(rowPt n).toArray⟩ : ByteArray).size = (rowPt n).length := by simp [ByteArray.size]
        have hc3 : ((c.toNat : Int)) ≤ 255 := by have := c.toNat_lt; omega
        cases hfit : fitK c t.text
        · have hgo : chkGo (rowPt n) 0 hd parts = some (t.fl, t.fc) := by rw [← HG.out, HDr.out, chkGo, if_neg (by omega), hcd, hfit]; rfl
          have HGo := hide hgo
          rw [hfit] at HF
          clear hTab hck hc hcd hfit hgo HG HDr HTx
          go_wp2_with fail
          refine still_tail 13 (by kernel_rfl) (by kernel_rfl) ?_
          simp only [List.take_succ_cons, List.take_zero, List.drop_succ_cons, List.drop_zero]
          repeat still_step
          refine wpStill_nil ?_
          go_wp2_with fail
          refine (unhide HF _).mono ?_
          rintro e w2 ⟨rfl, hb2⟩
          have hb2' : Below (wr.heap.size + 1) ((wr.alloc (.cells #[.string t.text, .int .i64 t.fl, .int .i64 t.fc, .int .i64 t.bl, .int .i64 t.bc] 209)).drew) w2 := hb2.mono (by show wr.heap.size + 1 ≤ (wr.alloc _).heap.size; rw [size_alloc1]; omega)
          have x0 : w2.cell? ⟨wr.heap.size, 0, none⟩ = some (.string t.text) := by rw [below_cell' hb2' _ _ (by omega)]; exact cell_new wr _ _ 0 _ rfl
          have x1 : w2.cell? ⟨wr.heap.size, 1, none⟩ = some (.int .i64 t.fl) := by rw [below_cell' hb2' _ _ (by omega)]; exact cell_new wr _ _ 1 _ rfl
          have x2 : w2.cell? ⟨wr.heap.size, 2, none⟩ = some (.int .i64 t.fc) := by rw [below_cell' hb2' _ _ (by omega)]; exact cell_new wr _ _ 2 _ rfl
          have x3 : w2.cell? ⟨wr.heap.size, 3, none⟩ = some (.int .i64 t.bl) := by rw [below_cell' hb2' _ _ (by omega)]; exact cell_new wr _ _ 3 _ rfl
          have x4 : w2.cell? ⟨wr.heap.size, 4, none⟩ = some (.int .i64 t.bc) := by rw [below_cell' hb2' _ _ (by omega)]; exact cell_new wr _ _ 4 _ rfl
          have hbo : ∀ m j, m < wr.heap.size → w2.cell? ⟨m, j, none⟩ = wr.cell? ⟨m, j, none⟩ := fun m j hm => (below_cell' hb2' m j (by omega)).trans (cellD wr _ hm j)
          have hfo : ∀ m j, m < wr.heap.size → w2.frozen? ⟨m, j, none⟩ = wr.frozen? ⟨m, j, none⟩ := fun m j hm => (hb2'.frozen (p := ⟨m, j, none⟩) (by show m < _; omega)).trans (World.frozen?_of_block (w := wr) (Below.heap_alloc wr _ m hm))
          have HB2 : Hid (Below wr.heap.size wr w2) := ((Below.refl _ _).alloc (Nat.le_refl _) _).drew.trans (hb2'.mono (by omega))
          clear hb2 hb2' HF
          have y0 := (hbo _ 0 hz2).trans f0
          have y1 := (hbo _ 1 hz2).trans f1
          have y2 := (hbo _ 2 hz2).trans f2
          have yf : ∀ j, w2.frozen? ⟨w.heap.size + 1 + 1, j, none⟩ = false := fun j => (hfo _ j hz2).trans (ff j)
          clear hbo hfo
          go_wp2_with fail
          refine bodyPost_ret (v := .agg #[.int .i64 t.fl, .int .i64 t.fc, .int .i64 4]) (by simp [results, Tryd.results177, go_sem, y0, y1, y2]) rfl ⟨?_, .inr ⟨t.fl, t.fc, HGo.out, rfl⟩⟩
          exact (((hB.out.trans (HB2.out.mono hB.out.size)).setCell (by show w.heap.size ≤ w.heap.size + 1 + 1; omega) _).setCell (by show w.heap.size ≤ w.heap.size + 1 + 1; omega) _).setCell (by show w.heap.size ≤ w.heap.size + 1 + 1; omega) _
        · have HG' : Hid (chkGo (rowPt n) (k + 1) t (parts.drop (k + 1)) = chkGo (rowPt n) 0 hd parts) := by rw [← HG.out, HDr.out, chkGo, if_neg (by omega), hcd, hfit]; rfl
          rw [hfit] at HF
          clear hTab hck hc hcd hfit HG HDr HTx
          go_wp2_with fail
          refine still_tail 13 (by kernel_rfl) (by kernel_rfl) ?_
          simp only [List.take_succ_cons, List.take_zero, List.drop_succ_cons, List.drop_zero]
          repeat still_step
          refine wpStill_nil ?_
          go_wp2_with fail
          refine (unhide HF _).mono ?_
          rintro e w2 ⟨rfl, hb2⟩
          have hb2' : Below (wr.heap.size + 1) ((wr.alloc (.cells #[.string t.text, .int .i64 t.fl, .int .i64 t.fc, .int .i64 t.bl, .int .i64 t.bc] 209)).drew) w2 := hb2.mono (by show wr.heap.size + 1 ≤ (wr.alloc _).heap.size; rw [size_alloc1]; omega)
          have x0 : w2.cell? ⟨wr.heap.size, 0, none⟩ = some (.string t.text) := by rw [below_cell' hb2' _ _ (by omega)]; exact cell_new wr _ _ 0 _ rfl
          have x1 : w2.cell? ⟨wr.heap.size, 1, none⟩ = some (.int .i64 t.fl) := by rw [below_cell' hb2' _ _ (by omega)]; exact cell_new wr _ _ 1 _ rfl
          have x2 : w2.cell? ⟨wr.heap.size, 2, none⟩ = some (.int .i64 t.fc) := by rw [below_cell' hb2' _ _ (by omega)]; exact cell_new wr _ _ 2 _ rfl
          have x3 : w2.cell? ⟨wr.heap.size, 3, none⟩ = some (.int .i64 t.bl) := by rw [below_cell' hb2' _ _ (by omega)]; exact cell_new wr _ _ 3 _ rfl
          have x4 : w2.cell? ⟨wr.heap.size, 4, none⟩ = some (.int .i64 t.bc) := by rw [below_cell' hb2' _ _ (by omega)]; exact cell_new wr _ _ 4 _ rfl
          have hbo : ∀ m j, m < wr.heap.size → w2.cell? ⟨m, j, none⟩ = wr.cell? ⟨m, j, none⟩ := fun m j hm => (below_cell' hb2' m j (by omega)).trans (cellD wr _ hm j)
          have hfo : ∀ m j, m < wr.heap.size → w2.frozen? ⟨m, j, none⟩ = wr.frozen? ⟨m, j, none⟩ := fun m j hm => (hb2'.frozen (p := ⟨m, j, none⟩) (by show m < _; omega)).trans (World.frozen?_of_block (w := wr) (Below.heap_alloc wr _ m hm))
          have HB2 : Hid (Below wr.heap.size wr w2) := ((Below.refl _ _).alloc (Nat.le_refl _) _).drew.trans (hb2'.mono (by omega))
          clear hb2 hb2' HF
          have y0 := (hbo _ 0 hz).trans q0
          have y1 := (hbo _ 1 hz).trans q1
          have y2 := (hbo _ 2 hz).trans q2
          have y3 := (hbo _ 3 hz).trans q3
          have y4 := (hbo _ 4 hz).trans q4
          have yf : ∀ j, w2.frozen? ⟨w.heap.size + 1 + 1 + 1, j, none⟩ = false := fun j => (hfo _ j hz).trans (hlf j)
          clear hbo hfo
          go_wp2_with fail
          have HBx : Hid (Below (w.heap.size + 1 + 1 + 1) (W3c n hd w) w2) := HBw.out.trans (HB2.out.mono (by omega))
          refine ⟨⟨k + 1, t, by omega, by go_num, ?_, rowAt_set5 y0 y1 y2 y3 y4 t, fun j => by simp only [World.frozen?_setCell]; exact yf j, HG'⟩, by simp [intOf]; omega⟩
          exact ((((HBx.out.setCell (Nat.le_refl _) _).setCell (Nat.le_refl _) _).setCell (Nat.le_refl _) _).setCell (Nat.le_refl _) _).setCell (Nat.le_refl _) _
      · have hgo : chkGo (rowPt n) 0 hd parts = some (t.fl, t.fc) := by rw [← HG.out, HDr.out, chkGo, if_pos (by omega)]
        have HGo := hide hgo
        have hpl' : ((rowPt n).length : Int) ≤ (k : Int) := by omega
        have hsz : (⟨(rowPt n).toArray⟩ : ByteArray).size = (rowPt n).length := by simp [ByteArray.size]
        clear hTab hgo HG HDr HTx hpl
        go_wp2_with fail
        go_quiet (fail)
        go_wp2_with fail
        refine bodyPost_ret (v := .agg #[.int .i64 t.fl, .int .i64 t.fc, .int .i64 4]) (by simp [results, Tryd.results177, go_sem, f0, f1, f2, hz2]) rfl ⟨?_, .inr ⟨t.fl, t.fc, HGo.out, rfl⟩⟩
        exact (((below_drewN (hB.out.alloc hB.out.size _) nq).setCell (by show w.heap.size ≤ w.heap.size + 1 + 1; omega) _).setCell (by show w.heap.size ≤ w.heap.size + 1 + 1; omega) _).setCell (by show w.heap.size ≤ w.heap.size + 1 + 1; omega) _
    · have hkn : k = parts.length := by omega
      subst hkn
      have hsz : (⟨(rowPt n).toArray⟩ : ByteArray).size = (rowPt n).length := by simp [ByteArray.size]
      clear HRow
      by_cases hpl : parts.length < (rowPt n).length
      · have hgo : chkGo (rowPt n) 0 hd parts = some (last.bl, last.bc) := by rw [← HG.out, List.drop_of_length_le (Nat.le_refl _), chkGo, if_pos hpl]
        have HGo := hide hgo
        have hpl' : (parts.length : Int) < ((rowPt n).length : Int) := by omega
        clear hgo HG
        go_wp2_with fail
        refine bodyPost_ret (v := .agg #[.int .i64 last.bl, .int .i64 last.bc, .int .i64 4]) (by simp [results, Tryd.results177, go_sem, f0, f1, f2]) rfl ⟨?_, .inr ⟨last.bl, last.bc, HGo.out, rfl⟩⟩
        exact ((hB.out.setCell (by show w.heap.size ≤ w.heap.size + 1 + 1; omega) _).setCell (by show w.heap.size ≤ w.heap.size + 1 + 1; omega) _).setCell (by show w.heap.size ≤ w.heap.size + 1 + 1; omega) _
      · have hgo : chkGo (rowPt n) 0 hd parts = none := by rw [← HG.out, List.drop_of_length_le (Nat.le_refl _), chkGo, if_neg hpl]
        have HGo := hide hgo
        have hpl' : ¬ (parts.length : Int) < ((rowPt n).length : Int) := by omega
        clear hgo HG
        go_wp2_with fail
        refine bodyPost_ret (v := .agg #[.int .i64 0, .int .i64 0, .int .i64 0]) (by simp [results, Tryd.results177, go_sem, f0, f1, f2]) rfl ⟨?_, .inl ⟨HGo.out, rfl⟩⟩
        exact ((hB.out.setCell (by show w.heap.size ≤ w.heap.size + 1 + 1; omega) _).setCell (by show w.heap.size ≤ w.heap.size + 1 + 1; omega) _).setCell (by show w.heap.size ≤ w.heap.size + 1 + 1; omega) _
end Go.Proofs.YtmmflekajbeamaaDoor
