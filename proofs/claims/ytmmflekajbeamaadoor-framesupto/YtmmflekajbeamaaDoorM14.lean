/-
  An instruction is read (readInstruction).
  A line is read (readLine).
  Plans: the table that holds each expression once, in memory: a list of expressions and a map that tells their numbers.
-/
import Derived.Test.YtmmflekajbeamaaDoorM11
import Derived.Test.YtmmflekajbeamaaDoorM13
import Derived.Maps.OwnSet
import Derived.Maps.OwnOps
import Derived.DeepKeys4
namespace Go.Proofs.YtmmflekajbeamaaDoor
open Go.RowKit Go.Maps

theorem rowIx_some {l : List UInt8} {n : Nat} (h : rowIx l = some n) : n < 12 ∧ rowNm n = l := by
  unfold rowIx at h
  have h1 := List.mem_of_find?_eq_some h
  have h2 := List.find?_some h
  exact ⟨List.mem_range.1 h1, by simpa using h2⟩
theorem rowIx_none {l : List UInt8} (h : rowIx l = none) : instB l = false := by
  unfold rowIx at h
  unfold instB
  rw [List.find?_eq_none] at h
  rw [Bool.eq_false_iff]
  intro h2
  obtain ⟨j, hj, h3⟩ := List.any_eq_true.1 h2
  exact h j hj h3
theorem ba_ext {s : ByteArray} {l : List UInt8} (h : l = s.data.toList) : s = ⟨l.toArray⟩ := by
  obtain ⟨d⟩ := s
  congr 1
  rw [h]

/-- What a call that reads a part of the text leaves. -/
def RdPost (B N b : Nat) (vw vu : Value) (w : World) (r : PS ⊕ (Int × Int × Int)) (e' : Ending) (w' : World) : Prop :=
  ∃ vw' vu', PFr B N b vw vu vw' vu' w w' ∧ ((∃ ps', r = .inl ps' ∧ ProgAt B N ps' vw' b vu' w' ∧ e' = .returned (.agg #[.int .i64 0, .int .i64 0, .int .i64 0])) ∨ ∃ l c e, r = .inr (l, c, e) ∧ e ≠ 0 ∧ e' = .returned (.agg #[.int .i64 l, .int .i64 c, .int .i64 e]))
theorem below_set3 {B : Nat} {w w2 : World} (h : Below B w w2) {n : Nat} (hn : B ≤ n) (x y z : Value) : Below B w (((w2.setCell ⟨n, 0, none⟩ x).setCell ⟨n, 1, none⟩ y).setCell ⟨n, 2, none⟩ z) :=
  ((h.setCell (p := ⟨n, 0, none⟩) hn x).setCell (p := ⟨n, 1, none⟩) hn y).setCell (p := ⟨n, 2, none⟩) hn z
theorem pfr_set3 {B N b : Nat} {vw vu vw' vu' : Value} {w w2 : World} (h : PFr B N b vw vu vw' vu' w w2) {n : Nat} (hB : B ≤ n) (hn : w.heap.size ≤ n) (x y z : Value) : PFr B N b vw vu vw' vu' w (((w2.setCell ⟨n, 0, none⟩ x).setCell ⟨n, 1, none⟩ y).setCell ⟨n, 2, none⟩ z) :=
  ((h.setOut hB hn 0 x).setOut hB hn 1 y).setOut hB hn 2 z

def W2k (hd : Tok) (w : World) : World :=
  (w.alloc (.cells #[.string hd.text, .int .i64 hd.fl, .int .i64 hd.fc, .int .i64 hd.bl, .int .i64 hd.bc] 209)).alloc (.cells #[.int .i64 0, .int .i64 0, .int .i64 0] 116)
theorem W2k_size (hd : Tok) (w : World) : (W2k hd w).heap.size = w.heap.size + 1 + 1 := by unfold W2k; rw [size_alloc1, size_alloc1]
theorem W2k_below (hd : Tok) (w : World) : Below w.heap.size w (W2k hd w) := ((Below.refl _ _).alloc (Nat.le_refl _) _).alloc (by rw [size_alloc1]; omega) _
structure InsC (hd : Tok) (w w2 : World) : Prop where
  t0 : w2.cell? ⟨w.heap.size, 0, none⟩ = some (.string hd.text)
  t1 : w2.cell? ⟨w.heap.size, 1, none⟩ = some (.int .i64 hd.fl)
  t2 : w2.cell? ⟨w.heap.size, 2, none⟩ = some (.int .i64 hd.fc)
  t3 : w2.cell? ⟨w.heap.size, 3, none⟩ = some (.int .i64 hd.bl)
  t4 : w2.cell? ⟨w.heap.size, 4, none⟩ = some (.int .i64 hd.bc)
  f0 : w2.cell? ⟨w.heap.size + 1, 0, none⟩ = some (.int .i64 0)
  f1 : w2.cell? ⟨w.heap.size + 1, 1, none⟩ = some (.int .i64 0)
  f2 : w2.cell? ⟨w.heap.size + 1, 2, none⟩ = some (.int .i64 0)
  ff : ∀ j, w2.frozen? ⟨w.heap.size + 1, j, none⟩ = false
  z1 : w.heap.size + 1 < w2.heap.size
theorem InsC.new (hd : Tok) (w : World) : InsC hd w (W2k hd w) := by
  have e : (w.alloc (.cells #[.string hd.text, .int .i64 hd.fl, .int .i64 hd.fc, .int .i64 hd.bl, .int .i64 hd.bc] 209)).heap.size = w.heap.size + 1 := size_alloc1 _ _
  refine ⟨?_, ?_, ?_, ?_, ?_, ?_, ?_, ?_, fun j => ?_, by rw [W2k_size]; omega⟩
  iterate 5
    · unfold W2k
      rw [World.cell?_alloc_past (hn := by omega), World.cell?_alloc_at (hn := rfl)]; rfl
  iterate 3
    · unfold W2k
      rw [World.cell?_alloc_at (hn := e.symm)]; rfl
  · unfold W2k
    rw [World.frozen?_alloc_at (hn := e.symm)]
theorem InsC.below {hd : Tok} {w w2 w3 : World} (h : InsC hd w w2) {M : Nat} (hM : w.heap.size + 1 < M) (hb : Below M w2 w3) : InsC hd w w3 := by
  have k0 : ∀ j, w3.cell? ⟨w.heap.size, j, none⟩ = w2.cell? ⟨w.heap.size, j, none⟩ := fun j => below_cell' hb _ _ (by omega)
  have k1 : ∀ j, w3.cell? ⟨w.heap.size + 1, j, none⟩ = w2.cell? ⟨w.heap.size + 1, j, none⟩ := fun j => below_cell' hb _ _ hM
  exact ⟨(k0 0).trans h.t0, (k0 1).trans h.t1, (k0 2).trans h.t2, (k0 3).trans h.t3, (k0 4).trans h.t4, (k1 0).trans h.f0, (k1 1).trans h.f1, (k1 2).trans h.f2, fun j => (hb.frozen (p := ⟨w.heap.size + 1, j, none⟩) hM).trans (h.ff j), block_lt_of_cell ((k1 0).trans h.f0)⟩

set_option maxRecDepth 100000 in
set_option maxHeartbeats 2000000 in
theorem readIns_any (B N : Nat) (ps : PS) (vw : Value) (b : Nat) (vu : Value) (hd : Tok) (v : Value) (parts : List Tok) (w : World) (h : ProgAt B N ps vw b vu w) (ht : Tab w) (hsl : SlAt w v parts) (hlow : ∀ a m c, v = .slice (some a) m c → a.block < B)
    (hpl : parts.length ≤ 5000) (hts : ∀ t ∈ parts, t.text.size ≤ maxLen) (hwl : ps.words.length ≤ 128) (hul : ps.uses.length + 3 ≤ 5000) :
    Calls Tryd.prog 158 #[.pointer (some ⟨N, 0, none⟩), .agg (tokC hd).toArray, v] w (RdPost B N b vw vu w (rdIns ps hd parts)) := by
  obtain ⟨wa, wc, rfl⟩ := owns_len h.wd
  have hBw : B ≤ w.heap.size := Nat.le_trans h.bN (Nat.le_of_lt h.nlt)
  have HP := hide h
  have HSl := hide hsl
  have HLow := hide hlow
  have HTs := hide hts
  clear h hsl hlow hts
  have hvs : ∃ a cap, v = .slice a parts.length cap := by obtain ⟨a, cap, e, _⟩ := HSl.out; exact ⟨a, cap, e⟩
  obtain ⟨a, cap, rfl⟩ := hvs
  simp only [tokC]
  cases hix : rowIx hd.text.data.toList with
  | none =>
    have HR : Hid (rdIns ps hd parts = .inr (hd.fl, hd.fc, 4)) := by unfold Hid rdIns; rw [hix]
    have HN := hide (fun w2 (h2 : Tab w2) => byName_no hd.text w2 (rowIx_none hix) h2)
    clear hix
    go_enter Tryd.func158, Tryd.ntmps158
    go_wp2_with fail
    refine (unhide HN _ (ht.below ht.pos (W2k_below hd w))).mono ?_
    rintro e w2 ⟨rfl, hb2⟩
    have HB2 : Hid (Below w.heap.size w w2) := (W2k_below hd w).trans (hb2.mono (W2k_below hd w).size)
    obtain ⟨t0, t1, t2, t3, t4, f0, f1, f2, ff, z1⟩ := (InsC.new hd w).below (by show w.heap.size + 1 < (W2k hd w).heap.size; rw [W2k_size]; omega) hb2
    clear hb2
    have z0 : w.heap.size < w2.heap.size := by omega
    simp only [zeroRow]
    go_wp2_with fail
    refine bodyPost_ret (v := .agg #[.int .i64 hd.fl, .int .i64 hd.fc, .int .i64 4]) (by simp [results, Tryd.results158, go_sem, f0, f1, f2, z1]) rfl ?_
    unfold RdPost
    refine ⟨_, _, PFr.of_below hBw ?_, .inr ⟨_, _, _, HR.out, by decide, rfl⟩⟩
    have y := below_set3 HB2.out (Nat.le_succ w.heap.size) (.int .i64 hd.fl) (.int .i64 hd.fc) (.int .i64 4)
    exact y.alloc y.size _
  | some n =>
    obtain ⟨hn, hnm⟩ := rowIx_some hix
    have htx : hd.text = ⟨(rowNm n).toArray⟩ := ba_ext hnm
    have HR : Hid (rdIns ps hd parts = match chkGo (rowPt n) 0 hd parts with | some (l, c) => .inr (l, c, 4) | none => if ps.words.length = 128 then .inr (hd.fl, hd.fc, 5) else .inl (layS n parts ps)) := by
      unfold Hid rdIns
      simp only [hix]
      cases chkGo (rowPt n) 0 hd parts with
      | none => rfl
      | some p => rfl
    have HN := hide (fun w2 (h2 : Tab w2) => byName_yes n w2 hn h2)
    rw [← htx] at HN
    have HTx := hide htx
    clear hix hnm htx
    go_enter Tryd.func158, Tryd.ntmps158
    go_wp2_with fail
    refine (unhide HN _ (ht.below ht.pos (W2k_below hd w))).mono ?_
    rintro e w2 ⟨rfl, hb2⟩
    have HB2 : Hid (Below w.heap.size w w2) := (W2k_below hd w).trans (hb2.mono (W2k_below hd w).size)
    have HC2 := hide ((InsC.new hd w).below (by show w.heap.size + 1 < (W2k hd w).heap.size; rw [W2k_size]; omega) hb2)
    obtain ⟨t0, t1, t2, t3, t4, f0, f1, f2, ff, z1⟩ := HC2.out
    clear hb2
    have z0 : w.heap.size < w2.heap.size := by omega
    have HW3 : Hid (Below w2.heap.size w2 (w2.alloc (.cells #[.string ⟨(rowNm n).toArray⟩, .int .i64 (rowOp n), .string ⟨(rowPt n).toArray⟩] 198))) := (Below.refl _ _).alloc (Nat.le_refl _) _
    have HCk := hide (checkParts_any n hd _ parts (w2.alloc (.cells #[.string ⟨(rowNm n).toArray⟩, .int .i64 (rowOp n), .string ⟨(rowPt n).toArray⟩] 198)) (HSl.out.below (HB2.out.trans (HW3.out.mono HB2.out.size))) (ht.below ht.pos (HB2.out.trans (HW3.out.mono HB2.out.size))) hpl HTs.out)
    simp only [rowV, tokC] at HCk ⊢
    go_wp2_with fail
    refine (unhide HCk).mono ?_
    rintro e w3 ⟨hb3, hres⟩
    have HB3 : Hid (Below w2.heap.size w2 w3) := HW3.out.trans (hb3.mono HW3.out.size)
    have HC3 := hide (HC2.out.below z1 HB3.out)
    have HBw : Hid (Below w.heap.size w w3) := HB2.out.trans (HB3.out.mono HB2.out.size)
    have r0 : w3.cell? ⟨w2.heap.size, 0, none⟩ = some (.string ⟨(rowNm n).toArray⟩) := by rw [below_cell' hb3 _ _ (by rw [size_alloc1]; omega), World.cell?_alloc_at (hn := rfl)]; rfl
    have r1 : w3.cell? ⟨w2.heap.size, 1, none⟩ = some (.int .i64 (rowOp n)) := by rw [below_cell' hb3 _ _ (by rw [size_alloc1]; omega), World.cell?_alloc_at (hn := rfl)]; rfl
    have r2 : w3.cell? ⟨w2.heap.size, 2, none⟩ = some (.string ⟨(rowPt n).toArray⟩) := by rw [below_cell' hb3 _ _ (by rw [size_alloc1]; omega), World.cell?_alloc_at (hn := rfl)]; rfl
    have zr : w2.heap.size < w3.heap.size := block_lt_of_cell r0
    clear hb3 t0 t1 t2 t3 t4 f0 f1 f2 ff z1 HCk HW3 HN
    obtain ⟨t0, t1, t2, t3, t4, f0, f1, f2, ff, z1⟩ := HC3.out
    have z0' : w.heap.size < w3.heap.size := by omega
    rcases hres with ⟨hck, rfl⟩ | ⟨l, c, hck, rfl⟩
    · rw [hck] at HR
      have hP3 := HP.out.above HBw.out
      have c0 := hP3.c0
      have hN3 := hP3.nlt
      have hNw := HP.out.nlt
      obtain ⟨k1, k2⟩ := chk_none (rowPt n) parts 0 hd (Nat.zero_le _) hck
      simp only [Nat.zero_add] at k1 k2
      have HK1 := hide k1
      have HK2 := hide k2
      clear k1 k2 hck
      by_cases hm : ps.words.length = 128
      · rw [if_pos hm] at HR
        have hm' : (ps.words.length : Int) = 128 := by omega
        clear hP3
        go_wp2_with fail
        refine bodyPost_ret (v := .agg #[.int .i64 hd.fl, .int .i64 hd.fc, .int .i64 5]) (by simp [results, Tryd.results158, go_sem, f0, f1, f2, z1]) rfl ?_
        unfold RdPost
        refine ⟨_, _, PFr.of_below hBw ?_, .inr ⟨_, _, _, HR.out, by decide, rfl⟩⟩
        have y := below_set3 HBw.out (Nat.le_succ w.heap.size) (.int .i64 hd.fl) (.int .i64 hd.fc) (.int .i64 5)
        exact y.alloc y.size _
      · rw [if_neg hm] at HR
        have hm' : ¬ (ps.words.length : Int) = 128 := by omega
        have HL := hide (fun o => lay_any B N n ps _ b vu _ parts (w3.alloc o) (hP3.alloc o) hn (HSl.out.below (HBw.out.trans ((Below.refl _ _).alloc HBw.out.size o))) HLow.out HK1.out HK2.out HTs.out hwl hul)
        simp only [rowV] at HL
        have HP3 := hide hP3
        clear hP3
        go_wp2_with fail
        refine (unhide HL _).mono ?_
        rintro e w4 ⟨rfl, vw', vu', h4, hf4⟩
        have hni : ¬ InP N (.slice wa ps.words.length wc) b vu (w.heap.size + 1) := fun hi => by have := (HP.out.inlt hi).2; omega
        have hblk : w4.heap[w.heap.size + 1]? = w3.heap[w.heap.size + 1]? := (hf4.out _ (by rw [size_alloc1]; omega) hni).trans (Below.heap_alloc w3 _ _ z1)
        have y0 : w4.cell? ⟨w.heap.size + 1, 0, none⟩ = some (.int .i64 0) := (World.cell?_of_block hblk).trans f0
        have y1 : w4.cell? ⟨w.heap.size + 1, 1, none⟩ = some (.int .i64 0) := (World.cell?_of_block hblk).trans f1
        have y2 : w4.cell? ⟨w.heap.size + 1, 2, none⟩ = some (.int .i64 0) := (World.cell?_of_block hblk).trans f2
        have yf : ∀ j, w4.frozen? ⟨w.heap.size + 1, j, none⟩ = false := fun j => (World.frozen?_of_block hblk).trans (ff j)
        have H4 := hide h4; have HF4 := hide hf4
        clear h4 hf4 t0 t1 t2 t3 t4 f0 f1 f2 ff HL hblk r0 r1 r2
        go_wp2_with fail
        refine bodyPost_ret (v := .agg #[.int .i64 0, .int .i64 0, .int .i64 0]) (by simp [results, Tryd.results158, go_sem, y0, y1, y2]) rfl ?_
        unfold RdPost
        have hnew : ¬ InP N vw' b vu' (w.heap.size + 1) := fun hi => by
          rcases HF4.out.new _ hi with h5 | h5
          · exact hni h5
          · rw [size_alloc1] at h5; omega
        have z0 := (PFr.of_below (N := N) (b := b) (vw := .slice wa ps.words.length wc) (vu := vu) hBw (HBw.out.alloc HBw.out.size _)).trans HF4.out
        refine ⟨vw', vu', pfr_set3 z0 (Nat.le_trans hBw (Nat.le_succ _)) (Nat.le_succ _) _ _ _, .inl ⟨_, HR.out, ?_, rfl⟩⟩
        exact ((H4.out.setOut hnew 0 _).setOut hnew 1 _).setOut hnew 2 _
    · rw [hck] at HR
      clear hck
      go_wp2_with fail
      refine bodyPost_ret (v := .agg #[.int .i64 l, .int .i64 c, .int .i64 4]) (by simp [results, Tryd.results158, go_sem, f0, f1, f2, z1]) rfl ?_
      unfold RdPost
      refine ⟨_, _, PFr.of_below hBw ?_, .inr ⟨_, _, _, HR.out, by decide, rfl⟩⟩
      have y := below_set3 HBw.out (Nat.le_succ w.heap.size) (.int .i64 l) (.int .i64 c) (.int .i64 4)
      exact y.alloc y.size _
end Go.Proofs.YtmmflekajbeamaaDoor

namespace Go.Proofs.YtmmflekajbeamaaDoor
open Go.RowKit Go.Maps

theorem lawS : Keyed Tryd.prog 9 := string_keyed Tryd.underlying9
theorem zeroI (w : World) : (zeroValue 3).run Tryd.prog w = .ok (.int .i64 0) w := by kernel_rfl

theorem lab_put {D : DataW Unit} {l : List (List UInt8 × Int)} (h : LabOK D l) (hD : IsMap D) (k : List UInt8) (v : Int) (hn : (l.lookup k).isSome = false) : LabOK (D.put (.string k) (.lit (.int .i64 v))) (l ++ [(k, v)]) := by
  have hl : l.lookup k = none := by cases hq : l.lookup k with | none => rfl | some x => rw [hq] at hn; cases hn
  have la : ∀ k', (l ++ [(k, v)]).lookup k' = (l.lookup k').or (if k' == k then some v else none) := by
    intro k'
    rw [List.lookup_append]
    congr 1
    unfold List.lookup
    cases k' == k <;> rfl
  intro k'
  rw [la]
  by_cases hk : k' = k
  · subst hk
    rw [hl]
    simp only [beq_self_eq_true, if_true, Option.none_or]
    exact ⟨Maps.has_put_same hD (by trivial) _, fun v' hv => by cases hv; exact Maps.atKey_put_same hD (by trivial) _ _⟩
  · have hb : (k' == k) = false := by rw [beq_eq_false_iff_ne]; exact hk
    have hne : Lit.string k' ≠ Lit.string k := fun e => hk (by cases e; rfl)
    rw [hb]
    simp only [Bool.false_eq_true, if_false, Option.or_none]
    obtain ⟨h1, h2⟩ := h k'
    exact ⟨(Maps.has_put_other hne _).trans h1, fun v' hv => (Maps.atKey_put_other hne _ _).trans (h2 v' hv)⟩

/-- The rest of a slice of tokens, behind the first. -/
def tailV (g off n cap : Nat) : Value := .slice (some ⟨g, if cap = 1 then off else off + 5, none⟩) n (cap - 1)
set_option maxRecDepth 100000 in
theorem slice1 (g off n cap : Nat) (w : World) : (Instr.slice 177 (.slice (some ⟨g, off, none⟩) (n + 1) cap) (some (.int .i64 1)) none none).run Tryd.prog w = .ok (tailV g off n cap) w := by
  have hs : (sizeOf 209).run Tryd.prog w = .ok 5 w := by kernel_rfl
  have he : Tryd.prog.elem 177 = 209 := by kernel_rfl
  have hu : Tryd.prog.underlying 177 = some (.slice (Tryd.prog.elem 177)) := by rw [he]; exact Tryd.underlying177
  rw [run_slice_l (P := Tryd.prog) w _ _ _ _ hu .i64 1 (by decide) (by omega), he, hs]
  simp only [Result.andThen, sliced, tailV]
  congr 1
  by_cases hc : cap = 1
  · rw [if_pos hc, if_pos (by simpa using hc)]
    rfl
  · rw [if_neg hc, if_neg (by simpa using hc)]
    rfl

/-- The cells of a fault, all nought, that may be written. -/
structure F0 (w : World) (F : Nat) : Prop where
  f0 : w.cell? ⟨F, 0, none⟩ = some (.int .i64 0)
  f1 : w.cell? ⟨F, 1, none⟩ = some (.int .i64 0)
  f2 : w.cell? ⟨F, 2, none⟩ = some (.int .i64 0)
  ff : ∀ j, w.frozen? ⟨F, j, none⟩ = false
theorem F0.block {w w' : World} {F : Nat} (h : F0 w F) (hb : w'.heap[F]? = w.heap[F]?) : F0 w' F :=
  ⟨(World.cell?_of_block hb).trans h.f0, (World.cell?_of_block hb).trans h.f1, (World.cell?_of_block hb).trans h.f2, fun j => (World.frozen?_of_block hb).trans (h.ff j)⟩
theorem F0.new (w : World) : F0 (w.alloc (.cells #[.int .i64 0, .int .i64 0, .int .i64 0] 116)) w.heap.size := by
  refine ⟨?_, ?_, ?_, fun j => ?_⟩
  iterate 3
    · rw [World.cell?_alloc_at (hn := rfl)]; rfl
  · rw [World.frozen?_alloc_at (hn := rfl)]
/-- Behind a call that reads a part of the text its fault is laid into the caller's own. -/
theorem rd_back {B N b : Nat} {vw vu vw1 vu1 : Value} {w w1 w2 : World} {r : PS ⊕ (Int × Int × Int)} {e' : Ending} (hp : PFr B N b vw vu vw1 vu1 w w1) {F : Nat} (hB : B ≤ F) (hF : w.heap.size ≤ F) (hlt : F < w1.heap.size) (hni : ¬ InP N vw1 b vu1 F) (hf : F0 w1 F)
    (h : RdPost B N b vw1 vu1 w1 r e' w2) : ∃ x y z : Int, e' = .returned (.agg #[.int .i64 x, .int .i64 y, .int .i64 z]) ∧ F0 w2 F ∧
      RdPost B N b vw vu w r (.returned (.agg #[.int .i64 x, .int .i64 y, .int .i64 z])) (((w2.setCell ⟨F, 0, none⟩ (.int .i64 x)).setCell ⟨F, 1, none⟩ (.int .i64 y)).setCell ⟨F, 2, none⟩ (.int .i64 z)) := by
  obtain ⟨vw2, vu2, hp2, h⟩ := h
  have hf2 := hf.block (hp2.out F hlt hni)
  have hni2 : ¬ InP N vw2 b vu2 F := fun hi => by
    rcases hp2.new F hi with h1 | h1
    · exact hni h1
    · omega
  rcases h with ⟨ps', rfl, hpa, rfl⟩ | ⟨l, c, e, rfl, he, rfl⟩
  · exact ⟨0, 0, 0, rfl, hf2, vw2, vu2, pfr_set3 (hp.trans hp2) hB hF _ _ _, .inl ⟨ps', rfl, ((hpa.setOut hni2 0 _).setOut hni2 1 _).setOut hni2 2 _, rfl⟩⟩
  · exact ⟨l, c, e, rfl, hf2, vw2, vu2, pfr_set3 (hp.trans hp2) hB hF _ _ _, .inr ⟨l, c, e, rfl, he, rfl⟩⟩

set_option maxRecDepth 100000 in
set_option maxHeartbeats 2000000 in
theorem readLine_nil (B N : Nat) (ps : PS) (vw : Value) (b : Nat) (vu : Value) (v : Value) (w : World) (h : ProgAt B N ps vw b vu w) (hsl : SlAt w v []) :
    Calls Tryd.prog 124 #[.pointer (some ⟨N, 0, none⟩), v] w (RdPost B N b vw vu w (rdLine ps [])) := by
  obtain ⟨a, cap, rfl, _, _⟩ := hsl
  have hBw : B ≤ w.heap.size := Nat.le_trans h.bN (Nat.le_of_lt h.nlt)
  have HP := hide h
  clear h
  go_enter Tryd.func124, Tryd.ntmps124
  go_wp2_with fail
  refine bodyPost_ret (v := .agg #[.int .i64 0, .int .i64 0, .int .i64 0]) (by simp [results, Tryd.results124, go_sem]) rfl ?_
  unfold RdPost
  exact ⟨vw, vu, PFr.of_below hBw ((Below.refl _ _).alloc (Nat.le_refl _) _), .inl ⟨ps, rfl, HP.out.alloc _, rfl⟩⟩

set_option maxRecDepth 100000 in
set_option maxHeartbeats 2000000 in
theorem readLine_nolab (B N : Nat) (ps : PS) (vw : Value) (b : Nat) (vu : Value) (v : Value) (t : Tok) (ts : List Tok) (w : World) (h : ProgAt B N ps vw b vu w) (ht : Tab w) (hsl : SlAt w v (t :: ts)) (hlow : ∀ a m c, v = .slice (some a) m c → a.block < B)
    (hpl : ts.length + 1 ≤ 5000) (hts : ∀ t' ∈ t :: ts, 1 ≤ t'.text.size ∧ t'.text.size ≤ 2000) (hwl : ps.words.length ≤ 128) (hul : ps.uses.length + 3 ≤ 5000) (hlab : labB t = false) :
    Calls Tryd.prog 124 #[.pointer (some ⟨N, 0, none⟩), v] w (RdPost B N b vw vu w (rdLine ps (t :: ts))) := by
  obtain ⟨a, cap, rfl, hcap, hrow⟩ := hsl
  obtain ⟨g, off, rfl, hr⟩ := hrow (by simp)
  have hgB : g < B := hlow _ _ _ rfl
  have hBw : B ≤ w.heap.size := Nat.le_trans h.bN (Nat.le_of_lt h.nlt)
  have hgw : g < w.heap.size := by omega
  obtain ⟨t0, t1, t2, t3, t4⟩ := hr 0 t (by simp)
  simp only [Nat.zero_mul, Nat.add_zero] at t0 t1 t2 t3 t4
  have hcap' : ts.length + 1 ≤ cap := hcap
  have hsl1 := slice1 g off ts.length cap
  have HRest : Hid (∀ w', Below B w w' → SlAt w' (tailV g off ts.length cap) ts) := fun w' hb =>
    ⟨_, _, rfl, by omega, fun hne => ⟨g, _, rfl, fun i u hi => by
      have := hr (i + 1) u (by simpa using hi)
      have hl : 0 < ts.length := List.length_pos_iff.2 hne
      rw [show off + (i + 1) * 5 = (if cap = 1 then off else off + 5) + i * 5 by rw [if_neg (by omega)]; omega] at this
      exact ⟨(below_cell' hb g _ hgB).trans this.r0, (below_cell' hb g _ hgB).trans this.r1, (below_cell' hb g _ hgB).trans this.r2, (below_cell' hb g _ hgB).trans this.r3, (below_cell' hb g _ hgB).trans this.r4⟩⟩⟩
  have HP := hide h
  have HTs := hide hts
  obtain ⟨ht1, ht2⟩ := hts t (by simp)
  clear h hr hrow hlow hts
  have HR : Hid (rdLine ps (t :: ts) = rdIns ps t ts) := by unfold Hid; rw [rdLine, hlab]; rfl
  have HIns : Hid (∀ w', Below w.heap.size w w' → Calls Tryd.prog 158 #[.pointer (some ⟨N, 0, none⟩), .agg (tokC t).toArray, tailV g off ts.length cap] w' (RdPost B N b vw vu w' (rdIns ps t ts))) := fun w' hb =>
    readIns_any B N ps vw b vu t _ ts w' (HP.out.above hb) (ht.below ht.pos hb) (HRest.out w' (hb.mono hBw)) (fun a m c e => by unfold tailV at e; cases e; exact hgB) (by omega) (fun u hu => by have := (HTs.out u (by simp [hu])).2; unfold maxLen; omega) hwl hul
  have hml : t.text.size ≤ maxLen := by unfold maxLen; omega
  have HNm : Hid (∀ w', Below w.heap.size w w' → Calls Tryd.prog 157 #[.string (labN t)] w' fun e' w'' => e' = .returned (.bool (nmI (labN t))) ∧ Below w'.heap.size w' w'') := fun w' hb =>
    isName_any (labN t) w' (ht.below ht.pos hb) (by unfold labN; rw [ByteArray.size_extract]; unfold maxLen; omega)
  simp only [tokC] at HIns
  cases hc : colB t.text.data.toList
  · have HCS := hide (fun w' => cutSuffix_no t.text w' hml ht1 hc)
    clear hc hlab
    go_enter Tryd.func124, Tryd.ntmps124
    go_wp2_with fail
    refine (unhide HCS _).mono ?_
    rintro e w' ⟨rfl, hw⟩
    obtain rfl := hw.symm
    go_wp2_with fail
    refine still_tail 6 (by kernel_rfl) (by kernel_rfl) ?_
    simp only [List.take_succ_cons, List.take_zero, List.drop_succ_cons, List.drop_zero]
    repeat still_step
    refine wpStill_nil ?_
    go_wp2_with fail
    refine (unhide HIns _ ((Below.refl _ _).alloc (Nat.le_refl _) _).drew).mono ?_
    intro e w2 h2
    obtain ⟨x, y, z, rfl, hf2, hpost⟩ := rd_back (F := w.heap.size) (PFr.of_below hBw ((Below.refl _ _).alloc (Nat.le_refl _) _).drew) hBw (Nat.le_refl _) (by show w.heap.size < (w.alloc _).heap.size; rw [size_alloc1]; omega) (fun hi => by have := (HP.out.inlt hi).2; omega) ((F0.new w).block rfl) h2
    obtain ⟨f0, f1, f2, ff⟩ := hf2
    have HPost := hide hpost
    clear hpost h2 t0 t1 t2 t3 t4 hsl1 HIns HCS HNm
    go_wp2_with fail
    refine bodyPost_ret (v := .agg #[.int .i64 x, .int .i64 y, .int .i64 z]) (by simp [results, Tryd.results124, go_sem, f0, f1, f2]) rfl ?_
    rw [HR.out]
    exact HPost.out
  · have hnm : nmI (labN t) = false := by unfold labB at hlab; rw [hc] at hlab; exact hlab
    have HCS := hide (fun w' => cutSuffix_yes t.text w' hml ht1 hc)
    rw [hnm] at HNm
    clear hc hlab hnm
    go_enter Tryd.func124, Tryd.ntmps124
    go_wp2_with fail
    refine (unhide HCS _).mono ?_
    rintro e w' ⟨rfl, hw⟩
    obtain rfl := hw.symm
    have HNm' : Hid (∀ w', Below w.heap.size w w' → Calls Tryd.prog 157 #[.string (t.text.extract 0 (t.text.size - 1))] w' fun e' w'' => e' = .returned (.bool false) ∧ Below w'.heap.size w' w'') := HNm
    go_wp2_with fail
    refine (unhide HNm' _ ((Below.refl _ _).alloc (Nat.le_refl _) _)).mono ?_
    rintro e w1 ⟨rfl, hb1⟩
    have HB1 : Hid (Below w.heap.size w w1) := ((Below.refl _ _).alloc (Nat.le_refl _) _).trans (hb1.mono (by rw [size_alloc1]; omega))
    have HF1 := hide ((F0.new w).block (hb1.block w.heap.size (by rw [size_alloc1]; omega)))
    have hz : w.heap.size < w1.heap.size := block_lt_of_cell HF1.out.f0
    have u0 := (below_cell' HB1.out g _ hgw).trans t0
    have u1 := (below_cell' HB1.out g _ hgw).trans t1
    have u2 := (below_cell' HB1.out g _ hgw).trans t2
    have u3 := (below_cell' HB1.out g _ hgw).trans t3
    have u4 := (below_cell' HB1.out g _ hgw).trans t4
    clear hb1 t0 t1 t2 t3 t4
    go_wp2_with fail
    refine still_tail 6 (by kernel_rfl) (by kernel_rfl) ?_
    simp only [List.take_succ_cons, List.take_zero, List.drop_succ_cons, List.drop_zero]
    repeat still_step
    refine wpStill_nil ?_
    go_wp2_with fail
    refine (unhide HIns _ HB1.out.drew).mono ?_
    intro e w2 h2
    obtain ⟨x, y, z, rfl, hf2, hpost⟩ := rd_back (F := w.heap.size) (PFr.of_below hBw HB1.out.drew) hBw (Nat.le_refl _) hz (fun hi => by have := (HP.out.inlt hi).2; omega) (HF1.out.block rfl) h2
    obtain ⟨f0, f1, f2, ff⟩ := hf2
    have HPost := hide hpost
    clear hpost h2 u0 u1 u2 u3 u4 hsl1 HIns HCS HNm HNm'
    go_wp2_with fail
    refine bodyPost_ret (v := .agg #[.int .i64 x, .int .i64 y, .int .i64 z]) (by simp [results, Tryd.results124, go_sem, f0, f1, f2]) rfl ?_
    rw [HR.out]
    exact HPost.out
end Go.Proofs.YtmmflekajbeamaaDoor

namespace Go.Proofs.YtmmflekajbeamaaDoor
open Go.RowKit Go.Maps Go.WideMaps

def exC (e : Ex) : List Value := [.int .i64 (e.1 : Int), .int .i64 (e.2.1 : Int), .int .i64 (e.2.2.1 : Int), .int .i64 (e.2.2.2 : Int)]
def exCs (T : List Ex) : List Value := T.flatMap exC
theorem exCs_snoc (T : List Ex) (e : Ex) : exCs (T ++ [e]) = exCs T ++ exC e := by simp [exCs]
/-- All its numbers are small. -/
def exB (e : Ex) : Prop := e.1 < 4294967296 ∧ e.2.1 < 4294967296 ∧ e.2.2.1 < 4294967296 ∧ e.2.2.2 < 4294967296
theorem okE_B {n : Nat} {e : Ex} (h : okE n e) (hn : n ≤ 1000) : exB e := by
  unfold okE at h
  unfold exB
  omega

/-! ### keys -/
theorem loE : laidOutB Tryd.prog = true := by kernel_rfl
theorem rowE : (218 : TypeId) < Tryd.prog.types.size := of_decide_eq_true (by kernel_rfl)
theorem wideE : (match Tryd.prog.underlying 218 with | some (.array _ _) | some (.struct _) => true | _ => false) = true := by rw [Tryd.underlying218]
set_option maxRecDepth 100000 in
theorem lawE : Keyed Tryd.prog 218 := Keyed.of_law (deep_law_laid loE (m := 2) (by omega) rowE (by kernel_rfl) wideE)
theorem ktE : Tryd.prog.keyType 218 = true := by kernel_rfl
set_option maxRecDepth 100000 in
theorem tsE : ∃ m, Tryd.prog.types.size = m + 1 := ⟨Tryd.prog.types.size - 1, (Nat.succ_pred_eq_of_pos (Nat.lt_of_le_of_lt (Nat.zero_le _) rowE)).symm⟩
theorem csE : Tryd.prog.cellsOf 218 = 4 := by kernel_rfl
theorem csI : Tryd.prog.cellsOf 3 = 1 := by kernel_rfl
def keyE (e : Ex) : Lit := .string (keyBytes [.int .i64 (e.1 : Int), .int .i64 (e.2.1 : Int), .int .i64 (e.2.2.1 : Int), .int .i64 (e.2.2.2 : Int)])
set_option maxRecDepth 100000 in
theorem keyOfE (e : Ex) (h : exB e) : keyOf Tryd.prog 218 (.agg (exC e).toArray) = some (keyE e) := by
  obtain ⟨k, a, b, v⟩ := e
  obtain ⟨h0, h1, h2, h3⟩ := h
  dsimp only at h0 h1 h2 h3
  have w0 : (Lit.int .i64 (k : Int)).wf = true := by refine WalkArith.wf_i64 ?_ <;> omega
  have w1 : (Lit.int .i64 (a : Int)).wf = true := by refine WalkArith.wf_i64 ?_ <;> omega
  have w2 : (Lit.int .i64 (b : Int)).wf = true := by refine WalkArith.wf_i64 ?_ <;> omega
  have w3 : (Lit.int .i64 (v : Int)).wf = true := by refine WalkArith.wf_i64 ?_ <;> omega
  obtain ⟨m, hm⟩ := tsE
  unfold keyOf
  simp only [Tryd.underlying218]
  rw [if_pos (by simp [ktE, Value.formed, Tryd.underlying218, csE, exC]), hm]
  unfold Program.keyLits
  simp only [Tryd.underlying218, Value.cells]
  rw [if_pos (by rw [csE]; exact ⟨rfl, by simp⟩)]
  simp [exC, csI, Program.keyLits, Tryd.underlying3, w0, w1, w2, w3, keyE]
theorem keyE_inj {e e' : Ex} (h : exB e) (h' : exB e') (he : keyE e = keyE e') : e = e' := by
  have h1 := keyOfE e h
  have h2 := keyOfE e' h'
  rw [he] at h1
  have := lawE.inj h1 h2
  obtain ⟨k, a, b, v⟩ := e
  obtain ⟨k', a', b', v'⟩ := e'
  simp [exC] at this
  obtain ⟨q1, q2, q3, q4⟩ := this
  rw [Prod.mk.injEq, Prod.mk.injEq, Prod.mk.injEq]
  exact ⟨by omega, by omega, by omega, by omega⟩

/-- A map's datum tells the numbers. -/
def TabOK (D : DataW Unit) (T : List Ex) : Prop :=
  ∀ e, exB e → (Maps.has D (keyE e) = true ↔ e ∈ T) ∧ ∀ n : Nat, T[n]? = some e → (∀ m : Nat, T[m]? = some e → m = n) → D.atKey (keyE e) (.lit (.int .i64 0)) = .lit (.int .i64 (n : Int))

/-- The table in memory: block N; all of it lies from block B on. -/
structure TabAt (B N : Nat) (T : List Ex) (b : Nat) (v : Value) (w : World) : Prop where
  c0 : w.cell? ⟨N, 0, none⟩ = some (.map (some b))
  c1 : w.cell? ⟨N, 1, none⟩ = some v
  fz : ∀ i, w.frozen? ⟨N, i, none⟩ = false
  bN : B ≤ N
  bb : B ≤ b
  nv : ∀ g, v.ownBlock = some g → g ≠ N
  ls : w.ownsRow B 218 4 v T.length (exCs T)
  mp : ∃ D : DataW Unit, w.ownsMap Tryd.prog 218 (plainElem Tryd.prog 3) b T.length D ∧ TabOK D T
theorem TabAt.nlt {B N : Nat} {T : List Ex} {b : Nat} {v : Value} {w : World} (h : TabAt B N T b v w) : N < w.heap.size := block_lt_of_cell h.c0
theorem TabAt.blt {B N : Nat} {T : List Ex} {b : Nat} {v : Value} {w : World} (h : TabAt B N T b v w) : b < w.heap.size := by
  obtain ⟨D, hm, _⟩ := h.mp
  exact hm.lt
def InT (N b : Nat) (v : Value) (g : Nat) : Prop := g = N ∨ g = b ∨ v.ownBlock = some g
theorem TabAt.inlt {B N : Nat} {T : List Ex} {b : Nat} {v : Value} {w : World} (h : TabAt B N T b v w) {g : Nat} (hg : InT N b v g) : B ≤ g ∧ g < w.heap.size := by
  rcases hg with rfl | rfl | hg
  · exact ⟨h.bN, h.nlt⟩
  · exact ⟨h.bb, h.blt⟩
  · exact row_lt h.ls g hg
theorem TabAt.kept {B N : Nat} {T : List Ex} {b : Nat} {v : Value} {w w' : World} (h : TabAt B N T b v w) (hk : ∀ g, InT N b v g → w'.heap[g]? = w.heap[g]?) : TabAt B N T b v w' := by
  have hN := hk N (.inl rfl)
  refine ⟨(World.cell?_of_block hN).trans h.c0, (World.cell?_of_block hN).trans h.c1, fun i => (World.frozen?_of_block hN).trans (h.fz i), h.bN, h.bb, h.nv, ownsRow_keep h.ls (fun g hg => hk g (.inr (.inr hg))), ?_⟩
  obtain ⟨D, hm, hl⟩ := h.mp
  exact ⟨D, map_keep hm (hk b (.inr (.inl rfl))), hl⟩
theorem TabAt.alloc {B N : Nat} {T : List Ex} {b : Nat} {v : Value} {w : World} (h : TabAt B N T b v w) (o : Obj) : TabAt B N T b v (w.alloc o) :=
  h.kept fun g hg => Below.heap_alloc w o g (h.inlt hg).2
theorem TabAt.drew {B N : Nat} {T : List Ex} {b : Nat} {v : Value} {w : World} (h : TabAt B N T b v w) : TabAt B N T b v w.drew := h.kept fun _ _ => rfl
theorem TabAt.above {B N : Nat} {T : List Ex} {b : Nat} {v : Value} {w w' : World} (h : TabAt B N T b v w) (hb : Below w.heap.size w w') : TabAt B N T b v w' :=
  h.kept fun g hg => hb.block g (h.inlt hg).2
theorem TabAt.setOut {B N : Nat} {T : List Ex} {b : Nat} {v : Value} {w : World} (h : TabAt B N T b v w) {g : Nat} (hg : ¬ InT N b v g) (i : Nat) (u : Value) : TabAt B N T b v (w.setCell ⟨g, i, none⟩ u) :=
  h.kept fun _ hk => heap_set_other w u (fun e => hg (e ▸ hk))
theorem TabAt.apart {B N : Nat} {T : List Ex} {b : Nat} {v : Value} {w : World} (h : TabAt B N T b v w) : N ≠ b ∧ v.ownBlock ≠ some b := by
  obtain ⟨D, hm, _⟩ := h.mp
  obtain ⟨es, cl, hb⟩ := map_of hm
  refine ⟨fun e => ?_, fun e => ?_⟩
  · obtain ⟨c, t, fr, hc⟩ := cells_of_cell h.c0
    rw [e, hb] at hc; cases hc
  · obtain ⟨_, c, t, fr, hc⟩ := ownsRow_cells h.ls b e
    rw [hb] at hc; cases hc
/-- What a call on the table leaves: blocks below B, and all others but N, the map and rows of expressions, are as they were. -/
structure TFr (B N b : Nat) (w w' : World) : Prop where
  below : Below B w w'
  other : ∀ g, g < w.heap.size → g ≠ N → g ≠ b → (∀ cur, w.heap[g]? ≠ some (.cells cur 218 (0, 0))) → w'.heap[g]? = w.heap[g]?
theorem TFr.refl (B N b : Nat) (w : World) : TFr B N b w w := ⟨Below.refl _ _, fun _ _ _ _ _ => rfl⟩
theorem TFr.trans {B N b : Nat} {x y z : World} (h : TFr B N b x y) (k : TFr B N b y z) : TFr B N b x z := by
  refine ⟨h.below.trans k.below, fun g hg h1 h2 h3 => ?_⟩
  have e := h.other g hg h1 h2 h3
  exact (k.other g (Nat.lt_of_lt_of_le hg h.below.size) h1 h2 (fun cur hc => h3 cur (e ▸ hc))).trans e
theorem TFr.above {B N b : Nat} {x y : World} (hB : B ≤ x.heap.size) (h : Below x.heap.size x y) : TFr B N b x y :=
  ⟨h.mono hB, fun g hg _ _ _ => h.block g hg⟩
/-- A key more in the map. -/
theorem TabOK.add {D : DataW Unit} {T : List Ex} (h : TabOK D T) (hD : IsMap D) {e : Ex} (he : exB e) (hn : e ∉ T) : TabOK (D.put (keyE e) (.lit (.int .i64 (T.length : Int)))) (T ++ [e]) := by
  intro e' he'
  obtain ⟨h1, h2⟩ := h e' he'
  by_cases hee : e' = e
  · subst hee
    refine ⟨⟨fun _ => by simp, fun _ => ?_⟩, fun n hn' _ => ?_⟩
    · rw [has_put_same hD (lawE.key (keyOfE e' he'))]
    · rw [atKey_put_same hD (lawE.key (keyOfE e' he'))]
      have : n = T.length := by
        by_cases hl : n < T.length
        · rw [List.getElem?_append_left hl] at hn'
          exact absurd (List.mem_of_getElem? hn') hn
        · have := (List.getElem?_eq_some_iff.1 hn').1
          simp at this
          omega
      rw [this]
  · have hk : keyE e' ≠ keyE e := fun q => hee (keyE_inj he' he q)
    refine ⟨?_, fun n hn' hu => ?_⟩
    · rw [has_put_other hk, h1]
      simp [hee]
    · rw [atKey_put_other hk]
      have hl : n < T.length := by
        by_cases hl : n < T.length
        · exact hl
        · rw [List.getElem?_append_right (by omega)] at hn'
          have h0 := (List.getElem?_eq_some_iff.1 hn').1
          have h00 : n - T.length = 0 := by simp at h0; omega
          rw [h00] at hn'
          simp at hn'
          exact absurd hn'.symm hee
      rw [List.getElem?_append_left hl] at hn'
      exact h2 n hn' (fun m hm => hu m (by rw [List.getElem?_append_left (List.getElem?_eq_some_iff.1 hm).1]; exact hm))
end Go.Proofs.YtmmflekajbeamaaDoor
