/-
  An instruction is read (readInstruction).
-/
import Derived.Test.YtmmflekajbeamaaDoorG14
namespace Go.Proofs.YtmmflekajbeamaaDoor
open Go.RowKit Go.Maps

theorem rowIx_some {l : List UInt8} {n : Nat} (h : rowIx l = some n) : n < 12 ∧ rowNm n = l := by
  unfold rowIx at h
  have h1 := List.mem_of_find?_eq_some h
  have h2 := List.find?_some h
  exact ⟨List.mem_range.1 h1, by simpa using h2⟩
theorem rowIx_none {l : List UInt8} (h : rowIx l = none) : instB l = false := by
  unfold rowIx at h
  unfold instB
  rw [List.find?_eq_none] at h
  rw [Bool.eq_false_iff]
  intro h2
  obtain ⟨j, hj, h3⟩ := List.any_eq_true.1 h2
  exact h j hj h3
theorem ba_ext {s : ByteArray} {l : List UInt8} (h : l = s.data.toList) : s = ⟨l.toArray⟩ := by
  obtain ⟨d⟩ := s
  congr 1
  rw [h]

/-- What a call that reads a part of the text leaves. -/
def RdPost (B N b : Nat) (vw vu : Value) (w : World) (r : PS ⊕ (Int × Int × Int)) (e' : Ending) (w' : World) : Prop :=
  ∃ vw' vu', PFr B N b vw vu vw' vu' w w' ∧ ((∃ ps', r = .inl ps' ∧ ProgAt B N ps' vw' b vu' w' ∧ e' = .returned (.agg #[.int .i64 0, .int .i64 0, .int .i64 0])) ∨ ∃ l c e, r = .inr (l, c, e) ∧ e ≠ 0 ∧ e' = .returned (.agg #[.int .i64 l, .int .i64 c, .int .i64 e]))
theorem below_set3 {B : Nat} {w w2 : World} (h : Below B w w2) {n : Nat} (hn : B ≤ n) (x y z : Value) : Below B w (((w2.setCell ⟨n, 0, none⟩ x).setCell ⟨n, 1, none⟩ y).setCell ⟨n, 2, none⟩ z) :=
  ((h.setCell (p := ⟨n, 0, none⟩) hn x).setCell (p := ⟨n, 1, none⟩) hn y).setCell (p := ⟨n, 2, none⟩) hn z
theorem pfr_set3 {B N b : Nat} {vw vu vw' vu' : Value} {w w2 : World} (h : PFr B N b vw vu vw' vu' w w2) {n : Nat} (hB : B ≤ n) (hn : w.heap.size ≤ n) (x y z : Value) : PFr B N b vw vu vw' vu' w (((w2.setCell ⟨n, 0, none⟩ x).setCell ⟨n, 1, none⟩ y).setCell ⟨n, 2, none⟩ z) :=
  ((h.setOut hB hn 0 x).setOut hB hn 1 y).setOut hB hn 2 z

def W2k (hd : Tok) (w : World) : World :=
  (w.alloc (.cells #[.string hd.text, .int .i64 hd.fl, .int .i64 hd.fc, .int .i64 hd.bl, .int .i64 hd.bc] 209)).alloc (.cells #[.int .i64 0, .int .i64 0, .int .i64 0] 116)
theorem W2k_size (hd : Tok) (w : World) : (W2k hd w).heap.size = w.heap.size + 1 + 1 := by unfold W2k; rw [size_alloc1, size_alloc1]
theorem W2k_below (hd : Tok) (w : World) : Below w.heap.size w (W2k hd w) := ((Below.refl _ _).alloc (Nat.le_refl _) _).alloc (by rw [size_alloc1]; omega) _
structure InsC (hd : Tok) (w w2 : World) : Prop where
  t0 : w2.cell? ⟨w.heap.size, 0, none⟩ = some (.string hd.text)
  t1 : w2.cell? ⟨w.heap.size, 1, none⟩ = some (.int .i64 hd.fl)
  t2 : w2.cell? ⟨w.heap.size, 2, none⟩ = some (.int .i64 hd.fc)
  t3 : w2.cell? ⟨w.heap.size, 3, none⟩ = some (.int .i64 hd.bl)
  t4 : w2.cell? ⟨w.heap.size, 4, none⟩ = some (.int .i64 hd.bc)
  f0 : w2.cell? ⟨w.heap.size + 1, 0, none⟩ = some (.int .i64 0)
  f1 : w2.cell? ⟨w.heap.size + 1, 1, none⟩ = some (.int .i64 0)
  f2 : w2.cell? ⟨w.heap.size + 1, 2, none⟩ = some (.int .i64 0)
  ff : ∀ j, w2.frozen? ⟨w.heap.size + 1, j, none⟩ = false
  z1 : w.heap.size + 1 < w2.heap.size
theorem InsC.new (hd : Tok) (w : World) : InsC hd w (W2k hd w) := by
  have e : (w.alloc (.cells #[.string hd.text, .int .i64 hd.fl, .int .i64 hd.fc, .int .i64 hd.bl, .int .i64 hd.bc] 209)).heap.size = w.heap.size + 1 := size_alloc1 _ _
  refine ⟨?_, ?_, ?_, ?_, ?_, ?_, ?_, ?_, fun j => ?_, by rw [W2k_size]; omega⟩
  iterate 5
    · unfold W2k
      rw [World.cell?_alloc_past (hn := by omega), World.cell?_alloc_at (hn := rfl)]; rfl
  iterate 3
    · unfold W2k
      rw [World.cell?_alloc_at (hn := e.symm)]; rfl
  · unfold W2k
    rw [World.frozen?_alloc_at (hn := e.symm)]
theorem InsC.below {hd : Tok} {w w2 w3 : World} (h : InsC hd w w2) {M : Nat} (hM : w.heap.size + 1 < M) (hb : Below M w2 w3) : InsC hd w w3 := by
  have k0 : ∀ j, w3.cell? ⟨w.heap.size, j, none⟩ = w2.cell? ⟨w.heap.size, j, none⟩ := fun j => below_cell' hb _ _ (by omega)
  have k1 : ∀ j, w3.cell? ⟨w.heap.size + 1, j, none⟩ = w2.cell? ⟨w.heap.size + 1, j, none⟩ := fun j => below_cell' hb _ _ hM
  exact ⟨(k0 0).trans h.t0, (k0 1).trans h.t1, (k0 2).trans h.t2, (k0 3).trans h.t3, (k0 4).trans h.t4, (k1 0).trans h.f0, (k1 1).trans h.f1, (k1 2).trans h.f2, fun j => (hb.frozen (p := ⟨w.heap.size + 1, j, none⟩) hM).trans (h.ff j), block_lt_of_cell ((k1 0).trans h.f0)⟩

set_option maxRecDepth 100000 in
set_option maxHeartbeats 2000000 in
theorem readIns_any (B N : Nat) (ps : PS) (vw : Value) (b : Nat) (vu : Value) (hd : Tok) (v : Value) (parts : List Tok) (w : World) (h : ProgAt B N ps vw b vu w) (ht : Tab w) (hsl : SlAt w v parts) (hlow : ∀ a m c, v = .slice (some a) m c → a.block < B)
    (hpl : parts.length ≤ 5000) (hts : ∀ t ∈ parts, t.text.size ≤ maxLen) (hwl : ps.words.length ≤ 128) (hul : ps.uses.length + 3 ≤ 5000) :
    Calls Tryd.prog 158 #[.pointer (some ⟨N, 0, none⟩), .agg (tokC hd).toArray, v] w (RdPost B N b vw vu w (rdIns ps hd parts)) := by
  obtain ⟨wa, wc, rfl⟩ := owns_len h.wd
  have hBw : B ≤ w.heap.size := Nat.le_trans h.bN (Nat.le_of_lt h.nlt)
  have HP := hide h
  have HSl := hide hsl
  have HLow := hide hlow
  have HTs := hide hts
  clear h hsl hlow hts
  have hvs : ∃ a cap, v = .slice a parts.length cap := by obtain ⟨a, cap, e, _⟩ := HSl.out; exact ⟨a, cap, e⟩
  obtain ⟨a, cap, rfl⟩ := hvs
  simp only [tokC]
  cases hix : rowIx hd.text.data.toList with
  | none =>
    have HR : Hid (rdIns ps hd parts = .inr (hd.fl, hd.fc, 4)) := by unfold Hid rdIns; rw [hix]
    have HN := hide (fun w2 (h2 : Tab w2) => byName_no hd.text w2 (rowIx_none hix) h2)
    clear hix
    go_enter Tryd.func158, Tryd.ntmps158
    go_wp2_with fail
    refine (unhide HN _ (ht.below ht.pos (W2k_below hd w))).mono ?_
    rintro e w2 ⟨rfl, hb2⟩
    have HB2 : Hid (Below w.heap.size w w2) := (W2k_below hd w).trans (hb2.mono (W2k_below hd w).size)
    obtain ⟨t0, t1, t2, t3, t4, f0, f1, f2, ff, z1⟩ := (InsC.new hd w).below (by show w.heap.size + 1 < (W2k hd w).heap.size; rw [W2k_size]; omega) hb2
    clear hb2
    have z0 : w.heap.size < w2.heap.size := by omega
    simp only [zeroRow]
    go_wp2_with fail
    refine bodyPost_ret (v := .agg #[.int .i64 hd.fl, .int .i64 hd.fc, .int .i64 4]) (by simp [results, Tryd.results158, go_sem, f0, f1, f2, z1]) rfl ?_
    unfold RdPost
    refine ⟨_, _, PFr.of_below hBw ?_, .inr ⟨_, _, _, HR.out, by decide, rfl⟩⟩
    have y := below_set3 HB2.out (Nat.le_succ w.heap.size) (.int .i64 hd.fl) (.int .i64 hd.fc) (.int .i64 4)
    exact y.alloc y.size _
  | some n =>
    obtain ⟨hn, hnm⟩ := rowIx_some hix
    have htx : hd.text = ⟨(rowNm n).toArray⟩ := ba_ext hnm
    have HR : Hid (rdIns ps hd parts = match chkGo (rowPt n) 0 hd parts with | some (l, c) => .inr (l, c, 4) | none => if ps.words.length = 128 then .inr (hd.fl, hd.fc, 5) else .inl (layS n parts ps)) := by
      unfold Hid rdIns
      simp only [hix]
      cases chkGo (rowPt n) 0 hd parts with
      | none => rfl
      | some p => rfl
    have HN := hide (fun w2 (h2 : Tab w2) => byName_yes n w2 hn h2)
    rw [← htx] at HN
    have HTx := hide htx
    clear hix hnm htx
    go_enter Tryd.func158, Tryd.ntmps158
    go_wp2_with fail
    refine (unhide HN _ (ht.below ht.pos (W2k_below hd w))).mono ?_
    rintro e w2 ⟨rfl, hb2⟩
    have HB2 : Hid (Below w.heap.size w w2) := (W2k_below hd w).trans (hb2.mono (W2k_below hd w).size)
    have HC2 := hide ((InsC.new hd w).below (by show w.heap.size + 1 < (W2k hd w).heap.size; rw [W2k_size]; omega) hb2)
    obtain ⟨t0, t1, t2, t3, t4, f0, f1, f2, ff, z1⟩ := HC2.out
    clear hb2
    have z0 : w.heap.size < w2.heap.size := by omega
    have HW3 : Hid (Below w2.heap.size w2 (w2.alloc (.cells #[.string ⟨(rowNm n).toArray⟩, .int .i64 (rowOp n), .string ⟨(rowPt n).toArray⟩] 198))) := (Below.refl _ _).alloc (Nat.le_refl _) _
    have HCk := hide (checkParts_any n hd _ parts (w2.alloc (.cells #[.string ⟨(rowNm n).toArray⟩, .int .i64 (rowOp n), .string ⟨(rowPt n).toArray⟩] 198)) (HSl.out.below (HB2.out.trans (HW3.out.mono HB2.out.size))) (ht.below ht.pos (HB2.out.trans (HW3.out.mono HB2.out.size))) hpl HTs.out)
    simp only [rowV, tokC] at HCk ⊢
    go_wp2_with fail
    refine (unhide HCk).mono ?_
    rintro e w3 ⟨hb3, hres⟩
    have HB3 : Hid (Below w2.heap.size w2 w3) := HW3.out.trans (hb3.mono HW3.out.size)
    have HC3 := hide (HC2.out.below z1 HB3.out)
    have HBw : Hid (Below w.heap.size w w3) := HB2.out.trans (HB3.out.mono HB2.out.size)
    have r0 : w3.cell? ⟨w2.heap.size, 0, none⟩ = some (.string ⟨(rowNm n).toArray⟩) := by rw [below_cell' hb3 _ _ (by rw [size_alloc1]; omega), World.cell?_alloc_at (hn := rfl)]; rfl
    have r1 : w3.cell? ⟨w2.heap.size, 1, none⟩ = some (.int .i64 (rowOp n)) := by rw [below_cell' hb3 _ _ (by rw [size_alloc1]; omega), World.cell?_alloc_at (hn := rfl)]; rfl
    have r2 : w3.cell? ⟨w2.heap.size, 2, none⟩ = some (.string ⟨(rowPt n).toArray⟩) := by rw [below_cell' hb3 _ _ (by rw [size_alloc1]; omega), World.cell?_alloc_at (hn := rfl)]; rfl
    have zr : w2.heap.size < w3.heap.size := block_lt_of_cell r0
    clear hb3 t0 t1 t2 t3 t4 f0 f1 f2 ff z1 HCk HW3 HN
    obtain ⟨t0, t1, t2, t3, t4, f0, f1, f2, ff, z1⟩ := HC3.out
    have z0' : w.heap.size < w3.heap.size := by omega
    rcases hres with ⟨hck, rfl⟩ | ⟨l, c, hck, rfl⟩
    · rw [hck] at HR
      have hP3 := HP.out.above HBw.out
      have c0 := hP3.c0
      have hN3 := hP3.nlt
      have hNw := HP.out.nlt
      obtain ⟨k1, k2⟩ := chk_none (rowPt n) parts 0 hd (Nat.zero_le _) hck
      simp only [Nat.zero_add] at k1 k2
      have HK1 := hide k1
      have HK2 := hide k2
      clear k1 k2 hck
      by_cases hm : ps.words.length = 128
      · rw [if_pos hm] at HR
        have hm' : (ps.words.length : Int) = 128 := by omega
        clear hP3
        go_wp2_with fail
        refine bodyPost_ret (v := .agg #[.int .i64 hd.fl, .int .i64 hd.fc, .int .i64 5]) (by simp [results, Tryd.results158, go_sem, f0, f1, f2, z1]) rfl ?_
        unfold RdPost
        refine ⟨_, _, PFr.of_below hBw ?_, .inr ⟨_, _, _, HR.out, by decide, rfl⟩⟩
        have y := below_set3 HBw.out (Nat.le_succ w.heap.size) (.int .i64 hd.fl) (.int .i64 hd.fc) (.int .i64 5)
        exact y.alloc y.size _
      · rw [if_neg hm] at HR
        have hm' : ¬ (ps.words.length : Int) = 128 := by omega
        have HL := hide (fun o => lay_any B N n ps _ b vu _ parts (w3.alloc o) (hP3.alloc o) hn (HSl.out.below (HBw.out.trans ((Below.refl _ _).alloc HBw.out.size o))) HLow.out HK1.out HK2.out HTs.out hwl hul)
        simp only [rowV] at HL
        have HP3 := hide hP3
        clear hP3
        go_wp2_with fail
        refine (unhide HL _).mono ?_
        rintro e w4 ⟨rfl, vw', vu', h4, hf4⟩
        have hni : ¬ InP N (.slice wa ps.words.length wc) b vu (w.heap.size + 1) := fun hi => by have := (HP.out.inlt hi).2; omega
        have hblk : w4.heap[w.heap.size + 1]? = w3.heap[w.heap.size + 1]? := (hf4.out _ (by rw [size_alloc1]; omega) hni).trans (Below.heap_alloc w3 _ _ z1)
        have y0 : w4.cell? ⟨w.heap.size + 1, 0, none⟩ = some (.int .i64 0) := (World.cell?_of_block hblk).trans f0
        have y1 : w4.cell? ⟨w.heap.size + 1, 1, none⟩ = some (.int .i64 0) := (World.cell?_of_block hblk).trans f1
        have y2 : w4.cell? ⟨w.heap.size + 1, 2, none⟩ = some (.int .i64 0) := (World.cell?_of_block hblk).trans f2
        have yf : ∀ j, w4.frozen? ⟨w.heap.size + 1, j, none⟩ = false := fun j => (World.frozen?_of_block hblk).trans (ff j)
        have H4 := hide h4; have HF4 := hide hf4
        clear h4 hf4 t0 t1 t2 t3 t4 f0 f1 f2 ff HL hblk r0 r1 r2
        go_wp2_with fail
        refine bodyPost_ret (v := .agg #[.int .i64 0, .int .i64 0, .int .i64 0]) (by simp [results, Tryd.results158, go_sem, y0, y1, y2]) rfl ?_
        unfold RdPost
        have hnew : ¬ InP N vw' b vu' (w.heap.size + 1) := fun hi => by
          rcases HF4.out.new _ hi with h5 | h5
          · exact hni h5
          · rw [size_alloc1] at h5; omega
        have z0 := (PFr.of_below (N := N) (b := b) (vw := .slice wa ps.words.length wc) (vu := vu) hBw (HBw.out.alloc HBw.out.size _)).trans HF4.out
        refine ⟨vw', vu', pfr_set3 z0 (Nat.le_trans hBw (Nat.le_succ _)) (Nat.le_succ _) _ _ _, .inl ⟨_, HR.out, ?_, rfl⟩⟩
        exact ((H4.out.setOut hnew 0 _).setOut hnew 1 _).setOut hnew 2 _
    · rw [hck] at HR
      clear hck
      go_wp2_with fail
      refine bodyPost_ret (v := .agg #[.int .i64 l, .int .i64 c, .int .i64 4]) (by simp [results, Tryd.results158, go_sem, f0, f1, f2, z1]) rfl ?_
      unfold RdPost
      refine ⟨_, _, PFr.of_below hBw ?_, .inr ⟨_, _, _, HR.out, by decide, rfl⟩⟩
      have y := below_set3 HBw.out (Nat.le_succ w.heap.size) (.int .i64 l) (.int .i64 c) (.int .i64 4)
      exact y.alloc y.size _
end Go.Proofs.YtmmflekajbeamaaDoor
