/-
  A text cut into lines of tokens (cut).
  Characters by the document's width against the model's decoding of a text.
-/
import Derived.Test.YtmmflekajbeamaaDoorT05
import Derived.Lib.OthersKept
namespace Go.Proofs.YtmmflekajbeamaaDoor
open Go.RowKit

/-- Does no character begin at p? -/
def badB (s : ByteArray) (p : Nat) : Bool := decide ((Utf8.decode s p).1 = 65533) && !preB (s.data.toList.drop p)
def cutGo (s : ByteArray) : Nat → Nat → CS → CS ⊕ (Int × Int)
  | 0, _, st => .inl st
  | f + 1, p, st => if p < s.size then (if badB s p then .inr (st.ln, st.col) else cutGo s f (p + (Utf8.decode s p).2) (takeS s p (Utf8.decode s p).1 st)) else .inl st
def cs0 : CS := ⟨1, 1, -1, 0, 0, false, [], []⟩
def cutS (s : ByteArray) : List (List Tok) ⊕ (Int × Int) := match cutGo s s.size 0 cs0 with | .inl st => .inl (endLineS s s.size st).lines | .inr pl => .inr pl

structure CInv (s : ByteArray) (p : Nat) (st : CS) : Prop where
  b1 : st.beg ≤ p
  b2 : st.beg ≤ s.size
  k1 : st.line.length ≤ p
  k2 : st.lines.length ≤ p
  l0 : 0 ≤ st.ln
  l1 : st.ln ≤ p + 1
  o0 : 0 ≤ st.col
  o1 : st.col ≤ p + 1
theorem CInv.zero (s : ByteArray) : CInv s 0 cs0 := ⟨by decide, by show (-1 : Int) ≤ (s.size : Int); omega, Nat.le_refl _, Nat.le_refl _, by decide, by decide, by decide, by decide⟩
theorem CInv.endTok {s : ByteArray} {p : Nat} {st : CS} (h : CInv s p st) (n : Nat) (hn : 1 ≤ n) : (endTokS s p st).beg ≤ (p : Int) ∧ (endTokS s p st).beg ≤ (s.size : Int) ∧ (endTokS s p st).line.length ≤ p + n := by
  have := h.b1; have := h.b2; have := h.k1
  unfold endTokS
  split
  · refine ⟨by show (-1 : Int) ≤ _; omega, by show (-1 : Int) ≤ _; omega, by simp; omega⟩
  · exact ⟨h.b1, h.b2, by omega⟩
theorem CInv.take {s : ByteArray} {p : Nat} {st : CS} (h : CInv s p st) (r : Int) (n : Nat) (hn : 1 ≤ n) (hp : p < s.size) : CInv s (p + n) (takeS s p r st) := by
  obtain ⟨e1, e2, e3⟩ := h.endTok n hn
  obtain ⟨b1, b2, k1, k2, l0, l1, o0, o1⟩ := h
  unfold takeS
  split
  · unfold endLineS
    exact ⟨by show (endTokS s p st).beg ≤ _; omega, e2, by simp, by simp; omega, by show 0 ≤ st.ln + 1; omega, by show st.ln + 1 ≤ _; omega, by show (0 : Int) ≤ 1; omega, by show (1 : Int) ≤ _; omega⟩
  · split
    · exact ⟨by show (endTokS s p st).beg ≤ _; omega, e2, e3, by show (endTokS s p st).lines.length ≤ _; rw [endTokS_lines]; omega, by show 0 ≤ (endTokS s p st).ln; rw [endTokS_ln]; exact l0, by show (endTokS s p st).ln ≤ _; rw [endTokS_ln]; omega, by show 0 ≤ st.col + 1; omega, by show st.col + 1 ≤ _; omega⟩
    · split
      · exact ⟨by show st.beg ≤ _; omega, b2, by show st.line.length ≤ _; omega, by show st.lines.length ≤ _; omega, l0, by show st.ln ≤ _; omega, by show 0 ≤ st.col + 1; omega, by show st.col + 1 ≤ _; omega⟩
      · split
        · exact ⟨by show (endTokS s p st).beg ≤ _; omega, e2, e3, by show (endTokS s p st).lines.length ≤ _; rw [endTokS_lines]; omega, by show 0 ≤ (endTokS s p st).ln; rw [endTokS_ln]; exact l0, by show (endTokS s p st).ln ≤ _; rw [endTokS_ln]; omega, by show 0 ≤ st.col + 1; omega, by show st.col + 1 ≤ _; omega⟩
        · split
          · exact ⟨by show (p : Int) ≤ _; omega, by show (p : Int) ≤ _; omega, by show st.line.length ≤ _; omega, by show st.lines.length ≤ _; omega, l0, by show st.ln ≤ _; omega, by show 0 ≤ st.col + 1; omega, by show st.col + 1 ≤ _; omega⟩
          · exact ⟨by show st.beg ≤ _; omega, b2, by show st.line.length ≤ _; omega, by show st.lines.length ≤ _; omega, l0, by show st.ln ≤ _; omega, by show 0 ≤ st.col + 1; omega, by show st.col + 1 ≤ _; omega⟩

theorem lines_set' {w : World} {B n j : Nat} {u v vl : Value} {ls : List (List Tok)} (hn : n < B) (h : LinesAt w B v vl ls) : LinesAt (w.setCell ⟨n, j, none⟩ u) B v vl ls := by
  obtain ⟨vs, ho, hl⟩ := h
  refine ⟨vs, ownsRow_keep ho (fun g hg => heap_set_other w u (by have := (ownsRow_cells ho g hg).1; omega)), fun i l hi => ?_⟩
  obtain ⟨x, hx, ht, hd⟩ := hl i l hi
  exact ⟨x, hx, ownsRow_keep ht (fun g hg => heap_set_other w u (by have := (ownsRow_cells ht g hg).1; omega)), hd⟩
theorem below_cell' {B : Nat} {W w1 : World} (hb : Below B W w1) (n i : Nat) (hn : n < B) : w1.cell? ⟨n, i, none⟩ = W.cell? ⟨n, i, none⟩ := hb.cell (p := ⟨n, i, none⟩) hn
theorem cells_ne {w : World} {k g : Nat} {s : ByteArray} {p : Nat} (hk : w.heap[k]? = some (.stringIter s p)) (hg : ∃ c t fr, w.heap[g]? = some (.cells c t fr)) : g ≠ k := fun e => by
  obtain ⟨c, t, fr, hc⟩ := hg
  rw [e, hk] at hc
  cases hc
theorem CutAt.iterAt {N : Nat} {s : ByteArray} {st : CS} {vl vs : Value} {w : World} (h : CutAt N s st vl vs w) {k : Nat} {s0 : ByteArray} {p0 : Nat} (hk : w.heap[k]? = some (.stringIter s0 p0)) (p : Nat) : CutAt N s st vl vs (w.iterAt k s0 p) := by
  have hN : (w.iterAt k s0 p).heap[N]? = w.heap[N]? := Lib.iterAt_other w k N s0 p (cells_ne hk (cells_of_cell h.c0))
  have hc : ∀ j, (w.iterAt k s0 p).cell? ⟨N, j, none⟩ = w.cell? ⟨N, j, none⟩ := fun j => World.cell?_of_block hN
  have hr : ∀ {B e z v n xs}, w.ownsRow B e z v n xs → (w.iterAt k s0 p).ownsRow B e z v n xs := fun ho => ownsRow_keep ho (fun g hg => Lib.iterAt_other w k g s0 p (cells_ne hk (ownsRow_cells ho g hg).2))
  obtain ⟨vsl, ho, hl⟩ := h.ls
  exact ⟨(hc 0).trans h.c0, (hc 1).trans h.c1, (hc 2).trans h.c2, (hc 3).trans h.c3, (hc 4).trans h.c4, (hc 5).trans h.c5, (hc 6).trans h.c6, (hc 7).trans h.c7, (hc 8).trans h.c8, fun i => (World.frozen?_of_block hN).trans (h.fz i), hr h.ln,
    vsl, hr ho, fun i l hi => by obtain ⟨x, hx, ht, hd⟩ := hl i l hi; exact ⟨x, hx, hr ht, hd⟩⟩
theorem cut_start (w : World) (s : ByteArray) :
    (((w.alloc (.cells #[.int .i64 0, .int .i64 0, .int .i64 0] 116)).alloc (.cells #[.string s, .int .i64 1, .int .i64 1, .int .i64 (-1), .int .i64 0, .int .i64 0, .bool false, .slice none 0 0, .slice none 0 0] 203)).iter s 0).heap[w.heap.size + 1 + 1]? = some (.stringIter s 0) ∧
    CutAt (w.heap.size + 1) s cs0 (.slice none 0 0) (.slice none 0 0) (((w.alloc (.cells #[.int .i64 0, .int .i64 0, .int .i64 0] 116)).alloc (.cells #[.string s, .int .i64 1, .int .i64 1, .int .i64 (-1), .int .i64 0, .int .i64 0, .bool false, .slice none 0 0, .slice none 0 0] 203)).iter s 0) ∧
    Below (w.heap.size + 1) (w.alloc (.cells #[.int .i64 0, .int .i64 0, .int .i64 0] 116)) (((w.alloc (.cells #[.int .i64 0, .int .i64 0, .int .i64 0] 116)).alloc (.cells #[.string s, .int .i64 1, .int .i64 1, .int .i64 (-1), .int .i64 0, .int .i64 0, .bool false, .slice none 0 0, .slice none 0 0] 203)).iter s 0) := by
  have hb : (((w.alloc (.cells #[.int .i64 0, .int .i64 0, .int .i64 0] 116)).alloc (.cells #[.string s, .int .i64 1, .int .i64 1, .int .i64 (-1), .int .i64 0, .int .i64 0, .bool false, .slice none 0 0, .slice none 0 0] 203)).iter s 0).heap[w.heap.size + 1]? = some (.cells #[.string s, .int .i64 1, .int .i64 1, .int .i64 (-1), .int .i64 0, .int .i64 0, .bool false, .slice none 0 0, .slice none 0 0] 203) := by
    unfold World.iter
    rw [Below.heap_alloc _ _ _ (by rw [size_alloc1, size_alloc1]; omega)]
    have := _root_.Go.heap_alloc_new (w.alloc (.cells #[.int .i64 0, .int .i64 0, .int .i64 0] 116)) (.cells #[.string s, .int .i64 1, .int .i64 1, .int .i64 (-1), .int .i64 0, .int .i64 0, .bool false, .slice none 0 0, .slice none 0 0] 203)
    rw [size_alloc1] at this
    exact this
  refine ⟨?_, ⟨?_, ?_, ?_, ?_, ?_, ?_, ?_, ?_, ?_, ?_, World.ownsRow_nil _ _ _ _, [], World.ownsRow_nil _ _ _ _, fun i l hi => by simp [cs0] at hi⟩, ?_⟩
  · have := World.iter_heap ((w.alloc (.cells #[.int .i64 0, .int .i64 0, .int .i64 0] 116)).alloc (.cells #[.string s, .int .i64 1, .int .i64 1, .int .i64 (-1), .int .i64 0, .int .i64 0, .bool false, .slice none 0 0, .slice none 0 0] 203)) s 0
    rw [size_alloc1, size_alloc1] at this
    exact this
  iterate 9
    · rw [cell_of_row _ _ _ _ _ _ hb]; rfl
  · intro i
    exact frozen_of_row _ _ _ _ _ hb
  · exact ((Below.refl _ _).alloc (by rw [size_alloc1]; omega) _).alloc (by rw [size_alloc1, size_alloc1]; omega) _

theorem extr_end (s : ByteArray) (p : Nat) : (s.extract p s.size).data.toList = s.data.toList.drop p := by
  rw [Lib.extract_data, List.take_of_length_le]
  rw [List.length_drop]; exact Nat.le_refl _
theorem extr_len (s : ByteArray) (p : Nat) (hs : s.size ≤ 2000) : (s.extract p s.size).size ≤ maxLen := by
  have h1 : (s.extract p s.size).size = (s.extract p s.size).data.toList.length := rfl
  rw [h1, extr_end, List.length_drop]
  have h2 : s.data.toList.length = s.size := rfl
  unfold maxLen
  omega
theorem iterPos_eq {w : World} {k : Nat} {s : ByteArray} {p : Nat} (h : w.heap[k]? = some (.stringIter s p)) : w.iterPos k = p := by simp [World.iterPos, h]
theorem decode_room (s : ByteArray) (p : Nat) (h : p < s.size) : p + (Utf8.decode s p).2 ≤ s.size + 3 := by
  have : (Utf8.decode s p).2 ≤ 4 := by
    simp only [Utf8.decode]
    repeat' split
    all_goals simp_all
  omega

set_option maxRecDepth 100000 in
set_option maxHeartbeats 2000000 in
theorem cut_any (s : ByteArray) (w : World) (hs : s.size ≤ 2000) :
    Calls Tryd.prog 123 #[.string s] w fun e' w' => Below w.heap.size w w' ∧
      ((∃ st v vl, cutGo s s.size 0 cs0 = .inl st ∧ LinesAt w' (w.heap.size + 2) v vl (endLineS s s.size st).lines ∧ e' = .returned (.tuple #[v, .agg #[.int .i64 0, .int .i64 0, .int .i64 0]])) ∨
       (∃ l c, cutGo s s.size 0 cs0 = .inr (l, c) ∧ e' = .returned (.tuple #[.slice none 0 0, .agg #[.int .i64 l, .int .i64 c, .int .i64 3]]))) := by
  go_enter Tryd.func123, Tryd.ntmps123
  go_wp2_with fail
  go_loopw [5] (fun _ wr => ∃ (f p : Nat) (st : CS) (vl vs : Value), wr.heap[w.heap.size + 1 + 1]? = some (.stringIter s p) ∧ CutAt (w.heap.size + 1) s st vl vs wr ∧ CInv s p st ∧ s.size ≤ p + f ∧ p ≤ s.size + 3 ∧ Hid (cutGo s f p st = cutGo s s.size 0 cs0) ∧ Below (w.heap.size + 1) (w.alloc (.cells #[.int .i64 0, .int .i64 0, .int .i64 0] 116)) wr) (fun _ wr => s.size - wr.iterPos (w.heap.size + 1 + 1))
  case atStart =>
    exact ⟨s.size, 0, cs0, .slice none 0 0, .slice none 0 0, (cut_start w s).1, (cut_start w s).2.1, CInv.zero s, by omega, by omega, rfl, (cut_start w s).2.2⟩
  case round =>
    obtain ⟨f, p, st, vl, vs, hk, hc, hinv, hf, hp3, HG, hbw⟩ := hrel
    have hB1 : Hid (Below w.heap.size w wr) := ((Below.refl _ _).alloc (Nat.le_refl _) _).trans (hbw.mono (by omega))
    have hwsz : w.heap.size < wr.heap.size := by have := hbw.size; rw [size_alloc1] at this; omega
    have g0 : wr.cell? ⟨w.heap.size, 0, none⟩ = some (.int .i64 0) := by rw [below_cell' hbw _ _ (by omega), World.cell?_alloc_at (hn := rfl)]; rfl
    have g1 : wr.cell? ⟨w.heap.size, 1, none⟩ = some (.int .i64 0) := by rw [below_cell' hbw _ _ (by omega), World.cell?_alloc_at (hn := rfl)]; rfl
    have g2 : wr.cell? ⟨w.heap.size, 2, none⟩ = some (.int .i64 0) := by rw [below_cell' hbw _ _ (by omega), World.cell?_alloc_at (hn := rfl)]; rfl
    have gf : ∀ i, wr.frozen? ⟨w.heap.size, i, none⟩ = false := fun i => by rw [hbw.frozen (p := ⟨w.heap.size, i, none⟩) (by simp), World.frozen?_alloc_at (hn := rfl)]
    have HBw := hide hbw
    have HInv := hide hinv
    have HK := hide hk
    have HC := hide hc
    clear hbw hinv hk hc
    by_cases hlt : p < s.size
    · obtain ⟨f, rfl⟩ : ∃ g, f = g + 1 := ⟨f - 1, by omega⟩
      have hw := Lib.decode_width_pos s p hlt
      have HSt : Hid (cutGo s (f + 1) p st = if badB s p then .inr (st.ln, st.col) else cutGo s f (p + (Utf8.decode s p).2) (takeS s p (Utf8.decode s p).1 st)) := by simp [Hid, cutGo, hlt]
      have nx := fun ty => Lib.run_next_any_at (P := Tryd.prog) wr (w.heap.size + 1 + 1) s p ty HK.out hlt
      have HCi := hide (HC.out.iterAt HK.out (p + (Utf8.decode s p).2))
      have HKi := hide (Lib.iterAt_heap wr (w.heap.size + 1 + 1) s p (p + (Utf8.decode s p).2) HK.out)
      cases hbad : badB s p
      · have HG' : Hid (cutGo s f (p + (Utf8.decode s p).2) (takeS s p (Utf8.decode s p).1 st) = cutGo s s.size 0 cs0) := by rw [← HG.out, HSt.out, hbad]; rfl
        have HInv' := hide (HInv.out.take (Utf8.decode s p).1 (Utf8.decode s p).2 hw hlt)
        have HTk := hide (take_any (w.heap.size + 1) s st vl vs p (Utf8.decode s p).1 (wr.iterAt (w.heap.size + 1 + 1) s (p + (Utf8.decode s p).2)) HCi.out HInv.out.b1 (by omega) (by have := HInv.out.k1; omega) (by have := HInv.out.k2; omega) HInv.out.l0 (by have := HInv.out.l1; omega) HInv.out.o0 (by have := HInv.out.o1; omega))
        have hp4 := decode_room s p hlt
        have HBi : Hid (Below (w.heap.size + 1) (w.alloc (.cells #[.int .i64 0, .int .i64 0, .int .i64 0] 116)) (wr.iterAt (w.heap.size + 1 + 1) s (p + (Utf8.decode s p).2))) := Lib.below_iterAt HBw.out (by omega) s _
        have hpre := extr_end s p
        have HPre := hide (hasPrefix_any (s.extract p s.size) (wr.iterAt (w.heap.size + 1 + 1) s (p + (Utf8.decode s p).2)) (extr_len s p hs))
        rw [hpre] at HPre
        have hps : (p : Int) ≤ (s.size : Int) := by omega
        clear HSt HG hpre HInv HC HBw
        generalize hdec : Utf8.decode s p = d at *
        obtain ⟨r, n⟩ := d
        simp only at *
        by_cases hr : r = 65533
        · have hpb : preB (s.data.toList.drop p) = true := by simpa [badB, hdec, hr] using hbad
          rw [hpb] at HPre
          subst hr
          clear hbad hpb hdec
          go_wp2_with fail
          refine (unhide HPre).mono ?_
          rintro e w' ⟨rfl, hw'⟩
          obtain rfl := hw'.symm
          go_wp2_with fail
          refine (unhide HTk).mono ?_
          rintro e w2 ⟨rfl, ⟨vl2, vs2, hc2⟩, hfr⟩
          go_wp2_with fail
          go_roundw
          case rel => exact ⟨f, p + n, _, vl2, vs2, hfr.iter _ _ _ HKi.out, hc2, HInv'.out, by omega, by omega, HG', HBi.out.trans hfr.below⟩
          case measure =>
            show s.size - w2.iterPos _ < s.size - wr.iterPos _
            rw [iterPos_eq (hfr.iter _ _ _ HKi.out), iterPos_eq HK.out]
            omega
        · have hr' : ((r : Int) == 65533) = false := by simp; omega
          clear hbad HPre hdec hr
          go_wp2_with fail
          refine (unhide HTk).mono ?_
          rintro e w2 ⟨rfl, ⟨vl2, vs2, hc2⟩, hfr⟩
          go_wp2_with fail
          go_roundw
          case rel => exact ⟨f, p + n, _, vl2, vs2, hfr.iter _ _ _ HKi.out, hc2, HInv'.out, by omega, by omega, HG', HBi.out.trans hfr.below⟩
          case measure =>
            show s.size - w2.iterPos _ < s.size - wr.iterPos _
            rw [iterPos_eq (hfr.iter _ _ _ HKi.out), iterPos_eq HK.out]
            omega
      · have hgo : cutGo s s.size 0 cs0 = .inr (st.ln, st.col) := by rw [← HG.out, HSt.out, hbad]; rfl
        have HGo := hide hgo
        have hb2 : (Utf8.decode s p).1 = 65533 ∧ preB (s.data.toList.drop p) = false := by simpa [badB] using hbad
        obtain ⟨hr, hpb⟩ := hb2
        have HPre := hide (hasPrefix_any (s.extract p s.size) (wr.iterAt (w.heap.size + 1 + 1) s (p + (Utf8.decode s p).2)) (extr_len s p hs))
        rw [extr_end s p, hpb] at HPre
        have HBi : Hid (Below w.heap.size w (wr.iterAt (w.heap.size + 1 + 1) s (p + (Utf8.decode s p).2))) := Lib.below_iterAt hB1.out (by omega) s _
        have hbo := fun (n : Nat) (h : n ≠ w.heap.size + 1 + 1) => Lib.iterAt_other wr (w.heap.size + 1 + 1) n s (p + (Utf8.decode s p).2) h
        have c1 := HCi.out.c1
        have c2 := HCi.out.c2
        have j0 := (World.cell?_of_block (a := ⟨w.heap.size, 0, none⟩) (hbo w.heap.size (by omega))).trans g0
        have j1 := (World.cell?_of_block (a := ⟨w.heap.size, 1, none⟩) (hbo w.heap.size (by omega))).trans g1
        have j2 := (World.cell?_of_block (a := ⟨w.heap.size, 2, none⟩) (hbo w.heap.size (by omega))).trans g2
        have jf : ∀ i, (wr.iterAt (w.heap.size + 1 + 1) s (p + (Utf8.decode s p).2)).frozen? ⟨w.heap.size, i, none⟩ = false := fun i => (World.frozen?_of_block (a := ⟨w.heap.size, i, none⟩) (hbo w.heap.size (by omega))).trans (gf i)
        have hps : (p : Int) ≤ (s.size : Int) := by omega
        clear HG HSt hbad hpb hgo hbo HInv HK HC HBw HKi HCi g0 g1 g2 gf
        generalize hdec : Utf8.decode s p = d at *
        obtain ⟨r, n⟩ := d
        simp only at *
        subst hr
        generalize wr.iterAt (w.heap.size + 1 + 1) s (p + n) = wi at *
        go_wp2_with fail
        refine (unhide HPre).mono ?_
        rintro e w' ⟨rfl, hw'⟩
        obtain rfl := hw'.symm
        go_wp2_with fail
        refine still_tail 4 (by kernel_rfl) (by kernel_rfl) ?_
        simp only [List.take_succ_cons, List.take_zero, List.drop_succ_cons, List.drop_zero]
        repeat still_step
        refine wpStill_nil ?_
        go_wp2_with fail
        refine bodyPost_ret (v := .tuple #[.slice none 0 0, .agg #[.int .i64 st.ln, .int .i64 st.col, .int .i64 3]]) (by simp [results, Tryd.results123, go_sem, j0, j1, j2]) rfl ⟨?_, .inr ⟨st.ln, st.col, HGo.out, rfl⟩⟩
        exact (((HBi.out.setCell (Nat.le_refl _) _).setCell (Nat.le_refl _) _).setCell (Nat.le_refl _) _).drew
    · have ne := fun ty => Lib.run_next_end_at (P := Tryd.prog) wr (w.heap.size + 1 + 1) s p ty HK.out hlt
      have hgo : cutGo s s.size 0 cs0 = .inl st := by rw [← HG.out]; cases f <;> simp [cutGo, hlt]
      have HGo := hide hgo
      have HE := hide (endLine_any (w.heap.size + 1) s st vl vs s.size wr HC.out HInv.out.b2 (Nat.le_refl _) (by have := HInv.out.k1; omega) (by have := HInv.out.k2; omega) HInv.out.l0 (by have := HInv.out.l1; omega))
      clear HG HK hgo
      go_wp2_with fail
      refine (unhide HE).mono ?_
      rintro e w2 ⟨rfl, ⟨vl2, vs2, hc2⟩, hfr⟩
      have c8 := hc2.c8
      have j0 : w2.cell? ⟨w.heap.size, 0, none⟩ = some (.int .i64 0) := by rw [below_cell' hfr.below _ _ (by omega)]; exact g0
      have j1 : w2.cell? ⟨w.heap.size, 1, none⟩ = some (.int .i64 0) := by rw [below_cell' hfr.below _ _ (by omega)]; exact g1
      have j2 : w2.cell? ⟨w.heap.size, 2, none⟩ = some (.int .i64 0) := by rw [below_cell' hfr.below _ _ (by omega)]; exact g2
      have jf : ∀ i, w2.frozen? ⟨w.heap.size, i, none⟩ = false := fun i => by rw [hfr.below.frozen (p := ⟨w.heap.size, i, none⟩) (by simp)]; exact gf i
      have HB2 : Hid (Below w.heap.size w w2) := hB1.out.trans (hfr.below.mono (by omega))
      have HC2 := hide hc2
      clear hfr hc2 g0 g1 g2 gf
      go_wp2_with fail
      refine bodyPost_ret (v := .tuple #[vs2, .agg #[.int .i64 0, .int .i64 0, .int .i64 0]]) (by simp [results, Tryd.results123, go_sem, j0, j1, j2]) rfl ⟨?_, .inl ⟨st, vs2, vl2, HGo.out, ?_, rfl⟩⟩
      · exact ((HB2.out.setCell (Nat.le_refl _) _).setCell (Nat.le_refl _) _).setCell (Nat.le_refl _) _
      · exact lines_set' (by omega) (lines_set' (by omega) (lines_set' (by omega) HC2.out.ls))
end Go.Proofs.YtmmflekajbeamaaDoor

namespace Go.Proofs.YtmmflekajbeamaaDoor
open Go
/-- The byte at a place, as a number. -/
def bt (s : ByteArray) (i : Nat) : Nat := (s.get! i).toNat
def widC (s : ByteArray) (i : Nat) : Nat → Nat → Nat → Option Nat
  | 0, _, c => some c
  | f + 1, j, c => if bt s (i + j) < 128 ∨ 192 ≤ bt s (i + j) then none else widC s i f (j + 1) (c * 64 + bt s (i + j) - 128)
def widN (s : ByteArray) (i n c least : Nat) : Nat :=
  if s.size < i + n then 0 else match widC s i (n - 1) 1 c with | none => 0 | some c => if c < least ∨ 1114111 < c ∨ (55296 ≤ c ∧ c < 57344) then 0 else n
/-- How many bytes the character at i has; 0: none begins there. -/
def wid (s : ByteArray) (i : Nat) : Nat :=
  if bt s i < 128 then 1
  else if 192 ≤ bt s i ∧ bt s i < 224 then widN s i 2 (bt s i - 192) 128
  else if 224 ≤ bt s i ∧ bt s i < 240 then widN s i 3 (bt s i - 224) 2048
  else if 240 ≤ bt s i ∧ bt s i < 248 then widN s i 4 (bt s i - 240) 65536
  else 0
theorem bt_lt (s : ByteArray) (i : Nat) : bt s i < 256 := (s.get! i).toNat_lt
theorem getElem?_bt (s : ByteArray) (i : Nat) (h : i < s.size) : ∃ u : UInt8, s.data.toList[i]? = some u ∧ u.toNat = bt s i := by
  have h' : i < s.data.toList.length := by rw [Array.length_toList]; exact h
  refine ⟨s.data.toList[i], List.getElem?_eq_getElem h', ?_⟩
  have h2 : i < s.data.size := h
  show _ = (s.data[i]!).toNat
  rw [getElem!_pos s.data i h2, Array.getElem_toList]
theorem take3 {l : List UInt8} (h : l.take 3 = [239, 191, 189]) : l[0]? = some 239 ∧ l[1]? = some 191 ∧ l[2]? = some 189 := by
  match l, h with
  | a :: b :: c :: r, h => simp at h; simp [h]
theorem pre_iff (s : ByteArray) (p : Nat) : preB (s.data.toList.drop p) = true ↔ p + 2 < s.size ∧ bt s p = 239 ∧ bt s (p + 1) = 191 ∧ bt s (p + 2) = 189 := by
  unfold preB
  rw [beq_iff_eq]
  constructor
  · intro h
    obtain ⟨h0, h1, h2⟩ := take3 h
    rw [List.getElem?_drop] at h0 h1 h2
    have hl : p + 2 < s.size := by
      have := (List.getElem?_eq_some_iff.1 h2).1
      rw [Array.length_toList] at this
      exact this
    obtain ⟨u0, e0, f0⟩ := getElem?_bt s p (by omega)
    obtain ⟨u1, e1, f1⟩ := getElem?_bt s (p + 1) (by omega)
    obtain ⟨u2, e2, f2⟩ := getElem?_bt s (p + 2) hl
    rw [Nat.add_zero] at h0
    rw [e0] at h0; rw [e1] at h1; rw [e2] at h2
    cases h0; cases h1; cases h2
    exact ⟨hl, f0.symm, f1.symm, f2.symm⟩
  · rintro ⟨hl, h0, h1, h2⟩
    obtain ⟨u0, e0, f0⟩ := getElem?_bt s p (by omega)
    obtain ⟨u1, e1, f1⟩ := getElem?_bt s (p + 1) (by omega)
    obtain ⟨u2, e2, f2⟩ := getElem?_bt s (p + 2) hl
    have g0 : u0 = 239 := UInt8.toNat_inj.1 (f0.trans h0)
    have g1 : u1 = 191 := UInt8.toNat_inj.1 (f1.trans h1)
    have g2 : u2 = 189 := UInt8.toNat_inj.1 (f2.trans h2)
    subst g0 g1 g2
    apply List.ext_getElem?
    intro k
    match k with
    | 0 => simp [e0]
    | 1 => simp [e1]
    | 2 => simp [e2]
    | k + 3 => simp only [List.length_cons, List.length_nil, Nat.le_add_left, List.getElem?_eq_none, List.length_take, List.length_drop, List.getElem?_eq_none_iff]; omega

set_option maxRecDepth 20000 in
theorem decode_bt (s : ByteArray) (i : Nat) : Utf8.decode s i =
    if bt s i < 128 then (bt s i, 1)
    else if bt s i / 32 = 6 ∧ (i + 1 < s.size ∧ bt s (i + 1) / 64 = 2) then
      (if 128 ≤ bt s i % 32 * 64 + bt s (i + 1) % 64 then (bt s i % 32 * 64 + bt s (i + 1) % 64, 2) else (65533, 1))
    else if bt s i / 16 = 14 ∧ (i + 1 < s.size ∧ bt s (i + 1) / 64 = 2) ∧ (i + 2 < s.size ∧ bt s (i + 2) / 64 = 2) then
      (if 2048 ≤ bt s i % 16 * 4096 + bt s (i + 1) % 64 * 64 + bt s (i + 2) % 64 ∧ (bt s i % 16 * 4096 + bt s (i + 1) % 64 * 64 + bt s (i + 2) % 64 < 55296 ∨ 57344 ≤ bt s i % 16 * 4096 + bt s (i + 1) % 64 * 64 + bt s (i + 2) % 64) then (bt s i % 16 * 4096 + bt s (i + 1) % 64 * 64 + bt s (i + 2) % 64, 3) else (65533, 1))
    else if bt s i / 8 = 30 ∧ (i + 1 < s.size ∧ bt s (i + 1) / 64 = 2) ∧ (i + 2 < s.size ∧ bt s (i + 2) / 64 = 2) ∧ (i + 3 < s.size ∧ bt s (i + 3) / 64 = 2) then
      (if 65536 ≤ bt s i % 8 * 262144 + bt s (i + 1) % 64 * 4096 + bt s (i + 2) % 64 * 64 + bt s (i + 3) % 64 ∧ bt s i % 8 * 262144 + bt s (i + 1) % 64 * 4096 + bt s (i + 2) % 64 * 64 + bt s (i + 3) % 64 ≤ 1114111 then (bt s i % 8 * 262144 + bt s (i + 1) % 64 * 4096 + bt s (i + 2) % 64 * 64 + bt s (i + 3) % 64, 4) else (65533, 1))
    else (65533, 1) := by
  have e0 : Utf8.decode s i =
    if bt s i < 128 then (bt s i, 1)
    else if (bt s i / 32 == 6 && (decide (i + 1 < s.size) && bt s (i + 1) / 64 == 2)) then
      (if 128 ≤ bt s i % 32 * 64 + bt s (i + 1) % 64 then (bt s i % 32 * 64 + bt s (i + 1) % 64, 2) else (65533, 1))
    else if (bt s i / 16 == 14 && (decide (i + 1 < s.size) && bt s (i + 1) / 64 == 2) && (decide (i + 2 < s.size) && bt s (i + 2) / 64 == 2)) then
      (if (decide (2048 ≤ bt s i % 16 * 4096 + bt s (i + 1) % 64 * 64 + bt s (i + 2) % 64) && Utf8.valid ((bt s i % 16 * 4096 + bt s (i + 1) % 64 * 64 + bt s (i + 2) % 64 : Nat) : Int)) then (bt s i % 16 * 4096 + bt s (i + 1) % 64 * 64 + bt s (i + 2) % 64, 3) else (65533, 1))
    else if (bt s i / 8 == 30 && (decide (i + 1 < s.size) && bt s (i + 1) / 64 == 2) && (decide (i + 2 < s.size) && bt s (i + 2) / 64 == 2) && (decide (i + 3 < s.size) && bt s (i + 3) / 64 == 2)) then
      (if (decide (65536 ≤ bt s i % 8 * 262144 + bt s (i + 1) % 64 * 4096 + bt s (i + 2) % 64 * 64 + bt s (i + 3) % 64) && Utf8.valid ((bt s i % 8 * 262144 + bt s (i + 1) % 64 * 4096 + bt s (i + 2) % 64 * 64 + bt s (i + 3) % 64 : Nat) : Int)) then (bt s i % 8 * 262144 + bt s (i + 1) % 64 * 4096 + bt s (i + 2) % 64 * 64 + bt s (i + 3) % 64, 4) else (65533, 1))
    else (65533, 1) := rfl
  rw [e0]
  have hv : ∀ n : Nat, Utf8.valid (n : Int) = true ↔ (n < 55296 ∨ (57344 ≤ n ∧ n ≤ 1114111)) := fun n => by
    unfold Utf8.valid
    rw [Bool.or_eq_true, Bool.and_eq_true, Bool.and_eq_true, decide_eq_true_eq, decide_eq_true_eq, decide_eq_true_eq, decide_eq_true_eq]
    omega
  have hb := bt_lt s i
  simp only [Bool.and_eq_true, beq_iff_eq, decide_eq_true_eq, hv, and_assoc]
  congr 1
  congr 1
  congr 1
  · congr 1
    rw [eq_iff_iff]; omega
  · congr 1
    congr 1
    rw [eq_iff_iff]; omega

theorem widC1 (s : ByteArray) (i c : Nat) : widC s i 1 1 c = if bt s (i + 1) < 128 ∨ 192 ≤ bt s (i + 1) then none else some (c * 64 + bt s (i + 1) - 128) := rfl
theorem widC2 (s : ByteArray) (i c : Nat) : widC s i 2 1 c = if bt s (i + 1) < 128 ∨ 192 ≤ bt s (i + 1) then none else if bt s (i + 2) < 128 ∨ 192 ≤ bt s (i + 2) then none else some ((c * 64 + bt s (i + 1) - 128) * 64 + bt s (i + 2) - 128) := rfl
theorem widC3 (s : ByteArray) (i c : Nat) : widC s i 3 1 c = if bt s (i + 1) < 128 ∨ 192 ≤ bt s (i + 1) then none else if bt s (i + 2) < 128 ∨ 192 ≤ bt s (i + 2) then none else if bt s (i + 3) < 128 ∨ 192 ≤ bt s (i + 3) then none else some (((c * 64 + bt s (i + 1) - 128) * 64 + bt s (i + 2) - 128) * 64 + bt s (i + 3) - 128) := rfl

/-- What decode gives, if no character begins at i, and if one does. -/
theorem wid_zero (s : ByteArray) (i : Nat) (hw : wid s i = 0) : Utf8.decode s i = (65533, 1) ∧ badB s i = true := by
  have key : Utf8.decode s i = (65533, 1) ∧ ¬ (i + 2 < s.size ∧ bt s i = 239 ∧ bt s (i + 1) = 191 ∧ bt s (i + 2) = 189) := by
    rw [decode_bt]
    have b0 := bt_lt s i
    have b1 := bt_lt s (i + 1)
    have b2 := bt_lt s (i + 2)
    have b3 := bt_lt s (i + 3)
    unfold wid at hw
    by_cases h1 : bt s i < 128
    · rw [if_pos h1] at hw; omega
    · rw [if_neg h1] at hw ⊢
      by_cases h2 : 192 ≤ bt s i ∧ bt s i < 224
      · rw [if_pos h2] at hw
        unfold widN at hw
        rw [widC1] at hw
        rw [if_neg (c := bt s i / 16 = 14 ∧ _) (by omega), if_neg (c := bt s i / 8 = 30 ∧ _) (by omega)]
        refine ⟨?_, by omega⟩
        split
        · split
          · exfalso
            rw [if_neg (by omega), if_neg (by omega)] at hw
            simp only at hw
            rw [if_neg (by omega)] at hw
            omega
          · rfl
        · rfl
      · rw [if_neg h2] at hw
        rw [if_neg (c := bt s i / 32 = 6 ∧ _) (by omega)]
        by_cases h3 : 224 ≤ bt s i ∧ bt s i < 240
        · rw [if_pos h3] at hw
          unfold widN at hw
          rw [widC2] at hw
          rw [if_neg (c := bt s i / 8 = 30 ∧ _) (by omega)]
          constructor
          · split
            · split
              · exfalso
                rw [if_neg (by omega), if_neg (by omega), if_neg (by omega)] at hw
                simp only at hw
                rw [if_neg (by omega)] at hw
                omega
              · rfl
            · rfl
          · rintro ⟨q0, q1, q2, q3⟩
            rw [if_neg (by omega), if_neg (by omega), if_neg (by omega)] at hw
            simp only at hw
            rw [if_neg (by omega)] at hw
            omega
        · rw [if_neg h3] at hw
          rw [if_neg (c := bt s i / 16 = 14 ∧ _) (by omega)]
          refine ⟨?_, by omega⟩
          by_cases h4 : 240 ≤ bt s i ∧ bt s i < 248
          · rw [if_pos h4] at hw
            unfold widN at hw
            rw [widC3] at hw
            split
            · split
              · exfalso
                rw [if_neg (by omega), if_neg (by omega), if_neg (by omega), if_neg (by omega)] at hw
                simp only at hw
                rw [if_neg (by omega)] at hw
                omega
              · rfl
            · rfl
          · rw [if_neg (by omega)]
  refine ⟨key.1, ?_⟩
  unfold badB
  rw [key.1]
  have : preB (s.data.toList.drop i) = false := by
    rw [Bool.eq_false_iff]
    intro hp
    exact key.2 ((pre_iff s i).1 hp)
  rw [this]
  rfl

theorem wid_pos (s : ByteArray) (i : Nat) (h : i < s.size) (hw : wid s i ≠ 0) :
    (Utf8.decode s i).2 = wid s i ∧ badB s i = false ∧ i + wid s i ≤ s.size ∧ (bt s i < 128 → (Utf8.decode s i).1 = bt s i ∧ wid s i = 1) ∧ (128 ≤ bt s i → 128 ≤ (Utf8.decode s i).1) ∧ ∀ j, 0 < j → j < wid s i → 128 ≤ bt s (i + j) := by
  have b0 := bt_lt s i
  have b1 := bt_lt s (i + 1)
  have b2 := bt_lt s (i + 2)
  have b3 := bt_lt s (i + 3)
  have hpre := pre_iff s i
  have hbad : badB s i = (decide ((Utf8.decode s i).1 = 65533) && !preB (s.data.toList.drop i)) := rfl
  rw [hbad]
  clear hbad
  rw [decode_bt]
  have e : ∀ n, wid s i = n → ∀ j, 0 < j → j < n → (n = 2 → 128 ≤ bt s (i + 1)) → (n = 3 → 128 ≤ bt s (i + 1) ∧ 128 ≤ bt s (i + 2)) → (n = 4 → 128 ≤ bt s (i + 1) ∧ 128 ≤ bt s (i + 2) ∧ 128 ≤ bt s (i + 3)) → n ≤ 4 → 128 ≤ bt s (i + j) := by
    intro n hn j hj hjn q2 q3 q4 hn4
    match j, hj with
    | 1, _ => match n, hjn with
      | 2, _ => exact q2 rfl
      | 3, _ => exact (q3 rfl).1
      | 4, _ => exact (q4 rfl).1
      | k + 5, _ => omega
    | 2, _ => match n, hjn with
      | 3, _ => exact (q3 rfl).2
      | 4, _ => exact (q4 rfl).2.1
      | k + 5, _ => omega
    | 3, _ => match n, hjn with
      | 4, _ => exact (q4 rfl).2.2
      | k + 5, _ => omega
    | k + 4, _ => omega
  by_cases h1 : bt s i < 128
  · have hw1 : wid s i = 1 := by unfold wid; rw [if_pos h1]
    rw [if_pos h1, hw1]
    refine ⟨rfl, ?_, by omega, fun _ => ⟨rfl, rfl⟩, fun h => by omega, fun j _ _ => by omega⟩
    rw [decide_eq_false (show ¬ bt s i = 65533 by omega)]; rfl
  · rw [if_neg h1]
    by_cases h2 : 192 ≤ bt s i ∧ bt s i < 224
    · have hw1 : wid s i = widN s i 2 (bt s i - 192) 128 := by unfold wid; rw [if_neg h1, if_pos h2]
      have hq : i + 2 ≤ s.size ∧ 128 ≤ bt s (i + 1) ∧ bt s (i + 1) < 192 ∧ 128 ≤ (bt s i - 192) * 64 + bt s (i + 1) - 128 ∧ wid s i = 2 := by
        rw [hw1] at hw ⊢
        unfold widN at hw ⊢
        rw [widC1] at hw ⊢
        by_cases q1 : s.size < i + 2
        · rw [if_pos q1] at hw; omega
        rw [if_neg q1] at hw ⊢
        by_cases q2 : bt s (i + 1) < 128 ∨ 192 ≤ bt s (i + 1)
        · rw [if_pos q2] at hw; exact absurd rfl hw
        rw [if_neg q2] at hw ⊢
        simp only at hw ⊢
        split at hw
        · omega
        · rw [if_neg (by assumption)]
          omega
      obtain ⟨q1, q2, q3, q4, q5⟩ := hq
      rw [if_pos (by omega), if_pos (by omega), q5]
      refine ⟨rfl, ?_, by omega, fun h => by omega, fun h => by simp only; omega, fun j a b => e _ q5 j a b (fun _ => q2) (fun h => by omega) (fun h => by omega) (by omega)⟩
      rw [decide_eq_false (by simp only; omega)]; rfl
    · rw [if_neg (c := bt s i / 32 = 6 ∧ _) (by omega)]
      by_cases h3 : 224 ≤ bt s i ∧ bt s i < 240
      · have hw1 : wid s i = widN s i 3 (bt s i - 224) 2048 := by unfold wid; rw [if_neg h1, if_neg h2, if_pos h3]
        have hq : i + 3 ≤ s.size ∧ 128 ≤ bt s (i + 1) ∧ bt s (i + 1) < 192 ∧ 128 ≤ bt s (i + 2) ∧ bt s (i + 2) < 192 ∧ (2048 ≤ ((bt s i - 224) * 64 + bt s (i + 1) - 128) * 64 + bt s (i + 2) - 128 ∧ ¬ (55296 ≤ ((bt s i - 224) * 64 + bt s (i + 1) - 128) * 64 + bt s (i + 2) - 128 ∧ ((bt s i - 224) * 64 + bt s (i + 1) - 128) * 64 + bt s (i + 2) - 128 < 57344)) ∧ wid s i = 3 := by
          rw [hw1] at hw ⊢
          unfold widN at hw ⊢
          rw [widC2] at hw ⊢
          by_cases q1 : s.size < i + 3
          · rw [if_pos q1] at hw; omega
          rw [if_neg q1] at hw ⊢
          by_cases q2 : bt s (i + 1) < 128 ∨ 192 ≤ bt s (i + 1)
          · rw [if_pos q2] at hw; exact absurd rfl hw
          rw [if_neg q2] at hw ⊢
          by_cases q3 : bt s (i + 2) < 128 ∨ 192 ≤ bt s (i + 2)
          · rw [if_pos q3] at hw; exact absurd rfl hw
          rw [if_neg q3] at hw ⊢
          simp only at hw ⊢
          split at hw
          · omega
          · rw [if_neg (by assumption)]
            omega
        obtain ⟨q1, q2, q3, q4, q5, q6, q7⟩ := hq
        rw [if_pos (by omega), if_pos (by omega), q7]
        refine ⟨rfl, ?_, by omega, fun h => by omega, fun h => by simp only; omega, fun j a b => e _ q7 j a b (fun h => by omega) (fun _ => ⟨q2, q4⟩) (fun h => by omega) (by omega)⟩
        by_cases hc : bt s i % 16 * 4096 + bt s (i + 1) % 64 * 64 + bt s (i + 2) % 64 = 65533
        · rw [hpre.2 ⟨by omega, by omega, by omega, by omega⟩, Bool.and_comm]; rfl
        · rw [decide_eq_false (by simp only; omega)]; rfl
      · rw [if_neg (c := bt s i / 16 = 14 ∧ _) (by omega)]
        by_cases h4 : 240 ≤ bt s i ∧ bt s i < 248
        · have hw1 : wid s i = widN s i 4 (bt s i - 240) 65536 := by unfold wid; rw [if_neg h1, if_neg h2, if_neg h3, if_pos h4]
          have hq : i + 4 ≤ s.size ∧ 128 ≤ bt s (i + 1) ∧ bt s (i + 1) < 192 ∧ 128 ≤ bt s (i + 2) ∧ bt s (i + 2) < 192 ∧ 128 ≤ bt s (i + 3) ∧ bt s (i + 3) < 192 ∧ (65536 ≤ (((bt s i - 240) * 64 + bt s (i + 1) - 128) * 64 + bt s (i + 2) - 128) * 64 + bt s (i + 3) - 128 ∧ (((bt s i - 240) * 64 + bt s (i + 1) - 128) * 64 + bt s (i + 2) - 128) * 64 + bt s (i + 3) - 128 ≤ 1114111) ∧ wid s i = 4 := by
            rw [hw1] at hw ⊢
            unfold widN at hw ⊢
            rw [widC3] at hw ⊢
            by_cases q1 : s.size < i + 4
            · rw [if_pos q1] at hw; omega
            rw [if_neg q1] at hw ⊢
            by_cases q2 : bt s (i + 1) < 128 ∨ 192 ≤ bt s (i + 1)
            · rw [if_pos q2] at hw; exact absurd rfl hw
            rw [if_neg q2] at hw ⊢
            by_cases q3 : bt s (i + 2) < 128 ∨ 192 ≤ bt s (i + 2)
            · rw [if_pos q3] at hw; exact absurd rfl hw
            rw [if_neg q3] at hw ⊢
            by_cases q4 : bt s (i + 3) < 128 ∨ 192 ≤ bt s (i + 3)
            · rw [if_pos q4] at hw; exact absurd rfl hw
            rw [if_neg q4] at hw ⊢
            simp only at hw ⊢
            split at hw
            · omega
            · rw [if_neg (by assumption)]
              omega
          obtain ⟨q1, q2, q3, q4, q5, q6, q7, q8, q9⟩ := hq
          rw [if_pos (by omega), if_pos (by omega), q9]
          refine ⟨rfl, ?_, by omega, fun h => by omega, fun h => by simp only; omega, fun j a b => e _ q9 j a b (fun h => by omega) (fun h => by omega) (fun _ => ⟨q2, q4, q6⟩) (by omega)⟩
          rw [decide_eq_false (by simp only; omega)]; rfl
        · exact absurd (by unfold wid; rw [if_neg h1, if_neg h2, if_neg h3, if_neg h4]) hw
end Go.Proofs.YtmmflekajbeamaaDoor
