/-
  The cutter: a character taken.
-/
import Derived.Test.YtgggaepeeaelhaaDoorAsE
namespace Go.Proofs.YtgggaepeeaelhaaDoor
open Go.RowKit

theorem toks_set {w : World} {N j : Nat} {u v : Value} {l : List Tok} (h : ToksAt w (N + 1) v l) : ToksAt (w.setCell ⟨N, j, none⟩ u) (N + 1) v l :=
  ownsRow_keep h (fun g hg => heap_set_other w u (by have := (ownsRow_cells h g hg).1; omega))
theorem lines_set {w : World} {N j : Nat} {u v vl : Value} {ls : List (List Tok)} (h : LinesAt w (N + 1) v vl ls) : LinesAt (w.setCell ⟨N, j, none⟩ u) (N + 1) v vl ls := by
  obtain ⟨vs, ho, hl⟩ := h
  refine ⟨vs, ownsRow_keep ho (fun g hg => heap_set_other w u (by have := (ownsRow_cells ho g hg).1; omega)), fun i l hi => ?_⟩
  obtain ⟨x, hx, ht, hd⟩ := hl i l hi
  exact ⟨x, hx, toks_set ht, hd⟩
theorem fz_set {w : World} {N j : Nat} {u : Value} (h : ∀ i, w.frozen? ⟨N, i, none⟩ = false) : ∀ i, (w.setCell ⟨N, j, none⟩ u).frozen? ⟨N, i, none⟩ = false := fun i => by rw [World.frozen?_setCell]; exact h i
theorem CutAt.setCol {N : Nat} {s : ByteArray} {st : CS} {vl vs : Value} {w : World} (h : CutAt N s st vl vs w) (c : Int) : CutAt N s { st with col := c } vl vs (w.setCell ⟨N, 2, none⟩ (.int .i64 c)) :=
  ⟨cell_of_rows h.c0 (by decide), cell_of_rows h.c1 (by decide), cell_set_same h.c2, cell_of_rows h.c3 (by decide), cell_of_rows h.c4 (by decide), cell_of_rows h.c5 (by decide), cell_of_rows h.c6 (by decide), cell_of_rows h.c7 (by decide), cell_of_rows h.c8 (by decide), fz_set h.fz, toks_set h.ln, lines_set h.ls⟩
theorem CutAt.setRem {N : Nat} {s : ByteArray} {st : CS} {vl vs : Value} {w : World} (h : CutAt N s st vl vs w) (b : Bool) : CutAt N s { st with rem := b } vl vs (w.setCell ⟨N, 6, none⟩ (.bool b)) :=
  ⟨cell_of_rows h.c0 (by decide), cell_of_rows h.c1 (by decide), cell_of_rows h.c2 (by decide), cell_of_rows h.c3 (by decide), cell_of_rows h.c4 (by decide), cell_of_rows h.c5 (by decide), cell_set_same h.c6, cell_of_rows h.c7 (by decide), cell_of_rows h.c8 (by decide), fz_set h.fz, toks_set h.ln, lines_set h.ls⟩
theorem CutAt.setBeg {N : Nat} {s : ByteArray} {st : CS} {vl vs : Value} {w : World} (h : CutAt N s st vl vs w) (b : Int) : CutAt N s { st with beg := b } vl vs (w.setCell ⟨N, 3, none⟩ (.int .i64 b)) :=
  ⟨cell_of_rows h.c0 (by decide), cell_of_rows h.c1 (by decide), cell_of_rows h.c2 (by decide), cell_set_same h.c3, cell_of_rows h.c4 (by decide), cell_of_rows h.c5 (by decide), cell_of_rows h.c6 (by decide), cell_of_rows h.c7 (by decide), cell_of_rows h.c8 (by decide), fz_set h.fz, toks_set h.ln, lines_set h.ls⟩
theorem CutAt.setFl {N : Nat} {s : ByteArray} {st : CS} {vl vs : Value} {w : World} (h : CutAt N s st vl vs w) (b : Int) : CutAt N s { st with fl := b } vl vs (w.setCell ⟨N, 4, none⟩ (.int .i64 b)) :=
  ⟨cell_of_rows h.c0 (by decide), cell_of_rows h.c1 (by decide), cell_of_rows h.c2 (by decide), cell_of_rows h.c3 (by decide), cell_set_same h.c4, cell_of_rows h.c5 (by decide), cell_of_rows h.c6 (by decide), cell_of_rows h.c7 (by decide), cell_of_rows h.c8 (by decide), fz_set h.fz, toks_set h.ln, lines_set h.ls⟩
theorem CutAt.setFc {N : Nat} {s : ByteArray} {st : CS} {vl vs : Value} {w : World} (h : CutAt N s st vl vs w) (b : Int) : CutAt N s { st with fc := b } vl vs (w.setCell ⟨N, 5, none⟩ (.int .i64 b)) :=
  ⟨cell_of_rows h.c0 (by decide), cell_of_rows h.c1 (by decide), cell_of_rows h.c2 (by decide), cell_of_rows h.c3 (by decide), cell_of_rows h.c4 (by decide), cell_set_same h.c5, cell_of_rows h.c6 (by decide), cell_of_rows h.c7 (by decide), cell_of_rows h.c8 (by decide), fz_set h.fz, toks_set h.ln, lines_set h.ls⟩
theorem CutAt.fr {N : Nat} {s : ByteArray} {st : CS} {vl vs : Value} {w w0 : World} (h : CutAt N s st vl vs w) (hf : Fr N w0 w) (j : Nat) (u : Value) : Fr N w0 (w.setCell ⟨N, j, none⟩ u) :=
  hf.setCell (Nat.le_refl _) (cells_of_cell h.c0) _

def takeS (s : ByteArray) (i : Nat) (r : Int) (st : CS) : CS :=
  if r = 10 then endLineS s i st
  else if r = 59 then { endTokS s i st with rem := true, col := st.col + 1 }
  else if st.rem = true then { st with col := st.col + 1 }
  else if r = 32 ∨ r = 9 then { endTokS s i st with col := st.col + 1 }
  else if st.beg < 0 then { st with beg := i, fl := st.ln, fc := st.col, col := st.col + 1 }
  else { st with col := st.col + 1 }
theorem endTokS_col (s : ByteArray) (i : Nat) (st : CS) : (endTokS s i st).col = st.col := by unfold endTokS; split <;> rfl

set_option maxRecDepth 100000 in
set_option maxHeartbeats 1000000 in
theorem take_any (N : Nat) (s : ByteArray) (st : CS) (vl vs : Value) (i : Nat) (r : Int) (w : World) (h : CutAt N s st vl vs w) (hbi : st.beg ≤ i) (hi : i ≤ s.size) (hlen : st.line.length ≤ 5000) (hlines : st.lines.length ≤ 5000) (l0 : 0 ≤ st.ln) (l1 : st.ln ≤ 100000) (o0 : 0 ≤ st.col) (o1 : st.col ≤ 100000) :
    Calls Tryd.prog 154 #[.pointer (some ⟨N, 0, none⟩), .int .i64 i, .int .i32 r] w fun e' w' => e' = .returned (.tuple #[]) ∧ (∃ vl' vs', CutAt N s (takeS s i r st) vl' vs' w') ∧ Fr N w w' := by
  by_cases h10 : r = 10
  · subst h10
    have HE := hide (endLine_any N s st vl vs i w h hbi hi hlen hlines l0 l1)
    have HS : Hid (takeS s i 10 st = endLineS s i st) := by simp [Hid, takeS]
    clear h
    go_enter Tryd.func154, Tryd.ntmps154
    go_wp2_with fail
    refine (unhide HE).mono ?_
    rintro e w1 ⟨rfl, hc, hf⟩
    have HC := hide hc; have HF := hide hf
    clear hc hf
    go_wp2
    (try simp only [Exit.inBlock, Exit.then])
    refine bodyPost_ret (results_none rfl _ _ _) rfl ?_
    rw [HS.out]
    exact ⟨rfl, HC.out, HF.out⟩
  have b10 : (r == 10) = false := by simpa using h10
  have HT := hide (endToken_any N s st vl vs i w h hbi hi hlen)
  have ec := endTokS_col s i st
  by_cases h59 : r = 59
  · subst h59
    have HS : Hid (takeS s i 59 st = { { endTokS s i st with rem := true } with col := (endTokS s i st).col + 1 }) := by simp [Hid, takeS, ec]
    rw [← ec] at o0 o1
    generalize endTokS s i st = st1 at *
    clear h ec
    go_enter Tryd.func154, Tryd.ntmps154
    go_wp2_with fail
    refine (unhide HT).mono ?_
    rintro e w1 ⟨rfl, ⟨vl1, hc⟩, hf⟩
    have HC := hide hc; have HF := hide hf
    obtain ⟨c0, c1, c2, c3, c4, c5, c6, c7, c8, fz, _, _⟩ := hc
    clear hf
    go_wp2
    go_end0
    rw [HS.out]
    exact ⟨rfl, ⟨vl1, vs, (HC.out.setRem true).setCol _⟩, (HC.out.setRem true).fr (HC.out.fr HF.out _ _) _ _⟩
  have b59 : (r == 59) = false := by simpa using h59
  cases hrem : st.rem
  · by_cases hsp : r = 32 ∨ r = 9
    · have HS : Hid (takeS s i r st = { endTokS s i st with col := (endTokS s i st).col + 1 }) := by simp [Hid, takeS, ec, h10, h59, hrem, hsp]
      have c6 := h.c6
      rw [hrem] at c6
      rw [← ec] at o0 o1
      generalize endTokS s i st = st1 at *
      clear h ec hrem h10 h59
      rcases hsp with rfl | rfl
      all_goals
        go_enter Tryd.func154, Tryd.ntmps154
        go_wp2_with fail
        refine (unhide HT).mono ?_
        rintro e w1 ⟨rfl, ⟨vl1, hc⟩, hf⟩
        have HC := hide hc; have HF := hide hf
        obtain ⟨c0, c1, c2, c3, c4, c5, c6', c7, c8, fz, _, _⟩ := hc
        clear hf
        go_wp2
        go_end0
        rw [HS.out]
        exact ⟨rfl, ⟨vl1, vs, HC.out.setCol _⟩, HC.out.fr HF.out _ _⟩
    · have b32 : (r == 32) = false := by simp; omega
      have b9 : (r == 9) = false := by simp; omega
      clear HT ec
      have HH := hide h
      by_cases hbg : st.beg < 0
      · have HS : Hid (takeS s i r st = { { { { st with beg := (i : Int) } with fl := st.ln } with fc := st.col } with col := st.col + 1 }) := by simp [Hid, takeS, h10, h59, hrem, hsp, hbg]
        obtain ⟨c0, c1, c2, c3, c4, c5, c6, c7, c8, fz, _, _⟩ := h
        rw [hrem] at c6
        clear hrem h10 h59 hsp
        go_enter Tryd.func154, Tryd.ntmps154
        go_wp2
        go_end0
        rw [HS.out]
        exact ⟨rfl, ⟨vl, vs, (((HH.out.setBeg i).setFl st.ln).setFc st.col).setCol (st.col + 1)⟩, (((HH.out.setBeg i).setFl st.ln).setFc st.col).fr (((HH.out.setBeg i).setFl st.ln).fr ((HH.out.setBeg i).fr (HH.out.fr (Fr.refl _ _) _ _) _ _) _ _) _ _⟩
      · have HS : Hid (takeS s i r st = { st with col := st.col + 1 }) := by simp [Hid, takeS, h10, h59, hrem, hsp, hbg]
        obtain ⟨c0, c1, c2, c3, c4, c5, c6, c7, c8, fz, _, _⟩ := h
        rw [hrem] at c6
        clear hrem h10 h59 hsp
        go_enter Tryd.func154, Tryd.ntmps154
        go_wp2
        go_end0
        rw [HS.out]
        exact ⟨rfl, ⟨vl, vs, HH.out.setCol _⟩, HH.out.fr (Fr.refl _ _) _ _⟩
  · have HS : Hid (takeS s i r st = { st with col := st.col + 1 }) := by simp [Hid, takeS, h10, h59, hrem]
    have HH := hide h
    obtain ⟨c0, c1, c2, c3, c4, c5, c6, c7, c8, fz, _, _⟩ := h
    rw [hrem] at c6
    clear hrem h10 h59 HT ec
    go_enter Tryd.func154, Tryd.ntmps154
    go_wp2
    go_end0
    rw [HS.out]
    exact ⟨rfl, ⟨vl, vs, HH.out.setCol _⟩, HH.out.fr (Fr.refl _ _) _ _⟩
end Go.Proofs.YtgggaepeeaelhaaDoor
