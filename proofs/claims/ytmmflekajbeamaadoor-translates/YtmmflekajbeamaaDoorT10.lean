/-
  An instruction whose parts are right is laid (lay).
-/
import Derived.Test.YtmmflekajbeamaaDoorT09
import Derived.OwnWalk
namespace Go.Proofs.YtmmflekajbeamaaDoor
open Go.RowKit Go.Maps

theorem chk_none (pt : List UInt8) : ∀ (ts : List Tok) (i : Nat) (last : Tok), i ≤ pt.length → chkGo pt i last ts = none → i + ts.length = pt.length ∧ ∀ j t, ts[j]? = some t → fitK (pt.getD (i + j) 0) t.text = true := by
  intro ts
  induction ts with
  | nil =>
    intro i last hi h
    unfold chkGo at h
    split at h
    · cases h
    · exact ⟨by simp; omega, fun j t hj => by simp at hj⟩
  | cons t ts ih =>
    intro i last hi h
    unfold chkGo at h
    split at h
    · cases h
    · split at h
      · cases h
      · rename_i h1 h2
        obtain ⟨r1, r2⟩ := ih (i + 1) t (by omega) h
        refine ⟨by simp; omega, fun j u hj => ?_⟩
        match j, hj with
        | 0, hj =>
          simp at hj
          subst hj
          simpa using h2
        | j + 1, hj =>
          simp at hj
          have := r2 j u hj
          rw [show i + 1 + j = i + (j + 1) by omega] at this
          exact this

theorem digit_head (s : ByteArray) (h : numOK s.data.toList = true) : nmI s = false := by
  unfold numOK at h
  simp only [Bool.and_eq_true, decide_eq_true_eq, List.all_eq_true] at h
  obtain ⟨⟨h1, h2⟩, h3⟩ := h
  have hsz : 1 ≤ s.size := h1
  refine nmI_none ?_
  obtain ⟨f, hf⟩ : ∃ f, s.size = f + 1 := ⟨s.size - 1, by omega⟩
  have hb : digC (s.get! 0) = true := by
    refine h3 _ ?_
    have e : s.get! 0 = s.data[0]'(by exact hsz) := by
      show s.data[0]! = _
      rw [getElem!_pos]
    rw [e]
    exact Array.getElem_mem_toList _
  unfold digC at hb
  rw [decide_eq_true_eq] at hb
  have hd : Utf8.decode s 0 = ((s.get! 0).toNat, 1) := by
    show (if (s.get! (0 + 0)).toNat < 128 then ((s.get! (0 + 0)).toNat, 1) else _) = _
    rw [Nat.add_zero, if_pos (by omega)]
  rw [hf, nameGo, if_pos (by omega), hd]
  rw [if_neg]
  unfold letB
  simp only [Nat.lt_irrefl, decide_false, Bool.false_and, Bool.or_false, decide_eq_true_eq]
  omega

/-- What the parts give is in its range. -/
def LOK (n : Nat) (s : LS) : Prop := (∀ j, 0 ≤ s.r j ∧ s.r j < 8) ∧ 0 ≤ s.k ∧ (n ≠ 11 → s.k < 4096) ∧ s.k ≤ 4294967295
theorem LOK.zero (n : Nat) (u : List (Nat × Tok)) : LOK n (ls0 u) := ⟨fun j => by simp [ls0], by simp [ls0], fun _ => by simp [ls0], by simp [ls0]⟩
theorem regB_val {l : List UInt8} (h : regB l = true) : ∃ a b, l = [a, b] ∧ 48 ≤ b.toNat ∧ b.toNat ≤ 55 ∧ regV l = (b.toNat : Int) - 48 := by
  match l, h with
  | [a, b], h =>
    simp [regB] at h
    exact ⟨a, b, rfl, by omega, by omega, rfl⟩
theorem rowPt_v (n i : Nat) (h : (rowPt n).getD i 0 = 118) : n = 11 := by
  match n with
  | 0 | 1 | 2 | 3 | 4 | 5 | 6 | 7 | 8 | 9 | 10 =>
    exfalso
    match i with
    | 0 | 1 | 2 => revert h; decide
    | i + 3 => simp [rowPt] at h
  | 11 => rfl
  | k + 12 => simp [rowPt] at h
theorem LOK.step {n nw i : Nat} {t : Tok} {s : LS} (h : LOK n s) (hf : fitK ((rowPt n).getD i 0) t.text = true) : LOK n (layP n nw i t s) := by
  unfold layP
  unfold fitK at hf
  split
  · rename_i hc
    rw [if_pos hc] at hf
    obtain ⟨a, b, _, h1, h2, h3⟩ := regB_val hf
    refine ⟨fun j => ?_, h.2⟩
    simp only
    split
    · rw [h3]; omega
    · exact h.1 j
  · rename_i hc
    rw [if_neg hc] at hf
    split
    · rename_i hn
      have hnm := digit_head t.text hn
      split at hf
      · rename_i hv
        simp only [fitB, hn, hnm, Bool.true_and, Bool.or_false, decide_eq_true_eq] at hf
        have h0 : 0 ≤ valD t.text.data.toList := by
          simp only [numOK, Bool.and_eq_true, decide_eq_true_eq, List.all_eq_true] at hn
          exact (valD_bd _ hn.2 hn.1.2).1
        exact ⟨h.1, h0, fun h11 => absurd (rowPt_v n i hv) h11, hf⟩
      · simp only [fitB, hn, hnm, Bool.true_and, Bool.or_false, decide_eq_true_eq] at hf
        have h0 : 0 ≤ valD t.text.data.toList := by
          simp only [numOK, Bool.and_eq_true, decide_eq_true_eq, List.all_eq_true] at hn
          exact (valD_bd _ hn.2 hn.1.2).1
        exact ⟨h.1, h0, fun _ => by simp only; omega, by simp only; omega⟩
    · exact h

structure LInv (B N n : Nat) (ps : PS) (vw : Value) (b : Nat) (vu0 : Value) (w wr : World) (ls : LS) (vu : Value) : Prop where
  pa : ProgAt B N { ps with uses := ls.u } vw b vu wr
  pf : PFr B N b vw vu0 vw vu w wr
  g1 : wr.cell? ⟨w.heap.size, 1, none⟩ = some (.int .i64 (rowOp n))
  g2 : wr.cell? ⟨w.heap.size, 2, none⟩ = some (.string ⟨(rowPt n).toArray⟩)
  q : ∀ j, j < 3 → wr.cell? ⟨w.heap.size + 1, j, none⟩ = some (.int .i64 (ls.r j))
  qf : ∀ j, wr.frozen? ⟨w.heap.size + 1, j, none⟩ = false
  i0 : ¬ InP N vw b vu w.heap.size
  i1 : ¬ InP N vw b vu (w.heap.size + 1)
  lok : LOK n ls
  ul : ls.u.length ≤ 5000
  bw : B ≤ w.heap.size

theorem LInv.above {B N n : Nat} {ps : PS} {vw : Value} {b : Nat} {vu0 : Value} {w wr w' : World} {ls : LS} {vu : Value} (h : LInv B N n ps vw b vu0 w wr ls vu) (hb : Below wr.heap.size wr w') : LInv B N n ps vw b vu0 w w' ls vu := by
  have hz : w.heap.size + 1 < wr.heap.size := block_lt_of_cell (h.q 0 (by decide))
  have hB : B ≤ wr.heap.size := Nat.le_trans h.pa.bN (Nat.le_of_lt h.pa.nlt)
  exact ⟨h.pa.above hb, h.pf.above hB hb, (below_cell' hb _ _ (by omega)).trans h.g1, (below_cell' hb _ _ (by omega)).trans h.g2, fun j hj => (below_cell' hb _ _ hz).trans (h.q j hj),
    fun j => (hb.frozen (p := ⟨w.heap.size + 1, j, none⟩) hz).trans (h.qf j), h.i0, h.i1, h.lok, h.ul, h.bw⟩
theorem LInv.setReg {B N n : Nat} {ps : PS} {vw : Value} {b : Nat} {vu0 : Value} {w wr : World} {ls : LS} {vu : Value} (h : LInv B N n ps vw b vu0 w wr ls vu) (k : Nat) (hk : k < 3) (x : Int) (h0 : 0 ≤ x) (h1 : x < 8) :
    LInv B N n ps vw b vu0 w (wr.setCell ⟨w.heap.size + 1, k, none⟩ (.int .i64 x)) { ls with r := fun j => if j = k then x else ls.r j } vu := by
  have hB : B ≤ w.heap.size + 1 := Nat.le_trans h.bw (Nat.le_succ _)
  refine ⟨h.pa.setOut h.i1 k _, h.pf.setOut hB (Nat.le_succ _) k _, ?_, ?_, fun j hj => ?_, fun j => by rw [World.frozen?_setCell]; exact h.qf j, h.i0, h.i1, ⟨fun j => ?_, h.lok.2⟩, h.ul, h.bw⟩
  · exact (World.cell?_of_block (heap_set_other wr _ (show w.heap.size ≠ w.heap.size + 1 by omega))).trans h.g1
  · exact (World.cell?_of_block (heap_set_other wr _ (show w.heap.size ≠ w.heap.size + 1 by omega))).trans h.g2
  · simp only
    by_cases hjk : j = k
    · subst hjk
      rw [if_pos rfl]
      exact cell_set_same (h.q j hj)
    · rw [if_neg hjk]
      exact cell_of_rows (h.q j hj) hjk
  · simp only
    split
    · exact ⟨h0, h1⟩
    · exact h.lok.1 j
theorem LInv.appU {B N n : Nat} {ps : PS} {vw : Value} {b : Nat} {vu0 : Value} {w wr w1 : World} {ls : LS} {vu : Value} (h : LInv B N n ps vw b vu0 w wr ls vu) (u : Nat × Tok) (g cap : Nat)
    (ho : w1.ownsRow B 213 6 (.slice (some ⟨g, 0, none⟩) (ls.u.length + 1) cap) (ls.u.length + 1) (useCs ls.u ++ useC u))
    (hg : wr.grownBy w1 vu.ownBlock) (ha : vu.ownBlock = some g ∨ wr.heap.size ≤ g) (hul : ls.u.length + 1 ≤ 5000) :
    LInv B N n ps vw b vu0 w (w1.setCell ⟨N, 2, none⟩ (.slice (some ⟨g, 0, none⟩) (ls.u.length + 1) cap)) { ls with u := ls.u ++ [u] } (.slice (some ⟨g, 0, none⟩) (ls.u.length + 1) cap) := by
  have hz : w.heap.size + 1 < wr.heap.size := block_lt_of_cell (h.q 0 (by decide))
  have hB : B ≤ wr.heap.size := Nat.le_trans h.pa.bN (Nat.le_of_lt h.pa.nlt)
  have hx0 : vu.ownBlock ≠ some w.heap.size := fun e => h.i0 (.inr (.inr (.inr e)))
  have hx1 : vu.ownBlock ≠ some (w.heap.size + 1) := fun e => h.i1 (.inr (.inr (.inr e)))
  have hN0 : w.heap.size ≠ N := fun e => h.i0 (.inl e)
  have hN1 : w.heap.size + 1 ≠ N := fun e => h.i1 (.inl e)
  have b0 : (w1.setCell ⟨N, 2, none⟩ (.slice (some ⟨g, 0, none⟩) (ls.u.length + 1) cap)).heap[w.heap.size]? = wr.heap[w.heap.size]? := (heap_set_other w1 _ hN0).trans (hg.block _ (by omega) (fun e => hx0 e.symm))
  have b1 : (w1.setCell ⟨N, 2, none⟩ (.slice (some ⟨g, 0, none⟩) (ls.u.length + 1) cap)).heap[w.heap.size + 1]? = wr.heap[w.heap.size + 1]? := (heap_set_other w1 _ hN1).trans (hg.block _ hz (fun e => hx1 e.symm))
  have hnew : ∀ j, j < wr.heap.size → vu.ownBlock ≠ some j → g ≠ j := fun j hj hn e => by
    rcases ha with ha | ha
    · exact hn (e ▸ ha)
    · omega
  refine ⟨h.pa.appU u g cap ho hg ha, h.pf.app hB h.pa.bN hg (fun k hk => ⟨.inr (.inr (.inr hk)), (row_lt h.pa.us k hk).1⟩) (fun k hk => by
      rcases hk with hk | hk | hk | hk
      · exact .inl (.inl hk)
      · exact .inl (.inr (.inl hk))
      · exact .inl (.inr (.inr (.inl hk)))
      · cases hk
        exact ha.imp (fun e => .inr (.inr (.inr e))) id) _ _, (World.cell?_of_block b0).trans h.g1, (World.cell?_of_block b0).trans h.g2, fun j hj => (World.cell?_of_block b1).trans (h.q j hj),
    fun j => (World.frozen?_of_block b1).trans (h.qf j), fun hi => ?_, fun hi => ?_, h.lok, by simp only [List.length_append, List.length_singleton]; exact hul, h.bw⟩
  · rcases hi with hi | hi | hi | hi
    · exact h.i0 (.inl hi)
    · exact h.i0 (.inr (.inl hi))
    · exact h.i0 (.inr (.inr (.inl hi)))
    · exact hnew _ (by omega) hx0 (Option.some.inj hi)
  · rcases hi with hi | hi | hi | hi
    · exact h.i1 (.inl hi)
    · exact h.i1 (.inr (.inl hi))
    · exact h.i1 (.inr (.inr (.inl hi)))
    · exact hnew _ hz hx1 (Option.some.inj hi)
theorem register_reg (s : ByteArray) (w : World) (h : regB s.data.toList = true) :
    Calls Tryd.prog 184 #[.string s] w fun e' w' => e' = .returned (.int .i64 (regV s.data.toList)) ∧ w' = w := by
  obtain ⟨a, b, hl, h1, h2, h3⟩ := regB_val h
  have hs : s = ⟨#[a, b]⟩ := by
    obtain ⟨d⟩ := s
    congr 1
    exact Array.toList_inj.1 hl
  rw [h3, hs]
  exact register_any a b w h1
theorem owns_len {w : World} {B : Nat} {e : TypeId} {k : Nat} {v : Value} {n : Nat} {xs : List Value} (h : w.ownsRow B e k v n xs) : ∃ a c, v = .slice a n c := by
  rcases h.2 with ⟨rfl, rfl⟩ | ⟨g', cap, cur, rfl, _⟩
  · exact ⟨none, 0, rfl⟩
  · exact ⟨_, _, rfl⟩
theorem lay_start (B N n : Nat) (ps : PS) (vw : Value) (b : Nat) (vu : Value) (w : World) (h : ProgAt B N ps vw b vu w) (hul : ps.uses.length ≤ 5000) :
    LInv B N n ps vw b vu w ((w.alloc (.cells #[.string ⟨(rowNm n).toArray⟩, .int .i64 (rowOp n), .string ⟨(rowPt n).toArray⟩] 198)).alloc (.cells #[.int .i64 0, .int .i64 0, .int .i64 0] 201)) (ls0 ps.uses) vu := by
  have hB : B ≤ w.heap.size := Nat.le_trans h.bN (Nat.le_of_lt h.nlt)
  have e1 : (w.alloc (.cells #[.string ⟨(rowNm n).toArray⟩, .int .i64 (rowOp n), .string ⟨(rowPt n).toArray⟩] 198)).heap.size = w.heap.size + 1 := size_alloc1 _ _
  refine ⟨(h.alloc _).alloc _, PFr.of_below hB (((Below.refl _ _).alloc (Nat.le_refl _) _).alloc (by omega) _), ?_, ?_, fun j hj => ?_, fun j => ?_, fun hi => ?_, fun hi => ?_, LOK.zero _ _, hul, hB⟩
  · rw [World.cell?_alloc_past (hn := by omega), World.cell?_alloc_at (hn := rfl)]; rfl
  · rw [World.cell?_alloc_past (hn := by omega), World.cell?_alloc_at (hn := rfl)]; rfl
  · rw [World.cell?_alloc_at (hn := e1.symm)]
    match j, hj with
    | 0, _ | 1, _ | 2, _ => rfl
  · rw [World.frozen?_alloc_at (hn := e1.symm)]
  · have := (h.inlt hi).2; omega
  · have := (h.inlt hi).2; omega

set_option maxRecDepth 100000 in
set_option maxHeartbeats 2000000 in
theorem lay_any (B N n : Nat) (ps : PS) (vw : Value) (b : Nat) (vu : Value) (v : Value) (parts : List Tok) (w : World) (h : ProgAt B N ps vw b vu w) (hn : n < 12) (hsl : SlAt w v parts) (hlow : ∀ a m c, v = .slice (some a) m c → a.block < B)
    (hlen : parts.length = (rowPt n).length) (hfit : ∀ j t, parts[j]? = some t → fitK ((rowPt n).getD j 0) t.text = true) (hts : ∀ t ∈ parts, t.text.size ≤ maxLen) (hwl : ps.words.length ≤ 128) (hul : ps.uses.length + 3 ≤ 5000) :
    Calls Tryd.prog 178 #[.pointer (some ⟨N, 0, none⟩), .agg (rowV n), v] w fun e' w' => e' = .returned (.tuple #[]) ∧ ∃ vw' vu', ProgAt B N (layS n parts ps) vw' b vu' w' ∧ PFr B N b vw vu vw' vu' w w' := by
  obtain ⟨a, cap, rfl, hcap, hrow⟩ := hsl
  obtain ⟨wa, wc, rfl⟩ := owns_len h.wd
  have HRow := hide hrow
  have HLow := hide hlow
  clear hrow hlow
  have HP := hide h
  have HLen := hide hlen
  clear h hlen
  simp only [rowV]
  go_enter Tryd.func178, Tryd.ntmps178
  go_wp2_with fail
  go_loopw [15, 7] (fun i kk wr => ∃ (k : Nat) (ls : LS) (vu' : Value), k ≤ parts.length ∧ i = .int .i64 k ∧ kk = .int .i64 ls.k ∧ LInv B N n ps (.slice wa ps.words.length wc) b vu w wr ls vu' ∧ Hid (ls.u.length ≤ ps.uses.length + k) ∧ Hid (layGo n ps.words.length k (parts.drop k) ls = layGo n ps.words.length 0 parts (ls0 ps.uses))) (fun i _ _ => parts.length - (intOf i).toNat)
  case atStart =>
    refine ⟨0, ls0 ps.uses, vu, Nat.zero_le _, rfl, rfl, lay_start B N n ps _ b vu w HP.out (by omega), by show ps.uses.length ≤ _; omega, rfl⟩
  case round =>
    obtain ⟨k, ls, vu', hk, rfl, rfl, hinv, HUl, HG⟩ := hrel
    have HI := hide hinv
    obtain ⟨pa, pf, g1, g2, q, qf, i0, i1, lok, ul, bw⟩ := hinv
    have bl := pf.below
    have hBz : w.heap.size + 1 < wr.heap.size := block_lt_of_cell (q 0 (by decide))
    have hz0 : w.heap.size < wr.heap.size := by omega
    by_cases hlt : k < parts.length
    · have hne : parts ≠ [] := by intro e; rw [e] at hlt; simp at hlt
      obtain ⟨g, off, rfl, hr⟩ := HRow.out hne
      have hgB : g < B := HLow.out _ _ _ rfl
      have hrk0 := hr k parts[k] (by simp [hlt])
      have hgw : g < w.heap.size := block_lt_of_cell hrk0.r0
      have hrk : RowAt wr g (off + k * 5) parts[k] := ⟨(below_cell' bl g _ hgB).trans hrk0.r0, (below_cell' bl g _ hgB).trans hrk0.r1, (below_cell' bl g _ hgB).trans hrk0.r2, (below_cell' bl g _ hgB).trans hrk0.r3, (below_cell' bl g _ hgB).trans hrk0.r4⟩
      obtain ⟨t0, t1, t2, t3, t4⟩ := hrk
      have hlt' : (k : Int) < (parts.length : Int) := by omega
      have HFk := hide (hfit k parts[k] (by simp [hlt]))
      have HTx := hide (hts parts[k] (by simp))
      have HDr : Hid (parts.drop k = parts[k] :: parts.drop (k + 1)) := List.drop_eq_getElem_cons hlt
      have hpl : k < (rowPt n).length := by have := HLen.out; omega
      have hk3 : k < 3 := by have := rowPt_len n; omega
      generalize parts[k] = t at *
      clear HRow hr hrk0 hfit hts hne
      obtain ⟨c, hc⟩ : ∃ c, (rowPt n)[k]? = some c := ⟨(rowPt n)[k], by simp [hpl]⟩
      have hix : ∀ h, (⟨(rowPt n).toArray⟩ : ByteArray)[k]'h = c := fun h => by
        have : (rowPt n)[k]'hpl = c := by rw [List.getElem?_eq_getElem hpl] at hc; exact Option.some.inj hc
        exact this
      have hcd : (rowPt n).getD k 0 = c := by rw [List.getD_eq_getElem?_getD, hc]; rfl
      have hsz : (⟨(rowPt n).toArray⟩ : ByteArray).size = (rowPt n).length := by simp [ByteArray.size]
      have hpl2 : (k : Int) < ((rowPt n).length : Int) := by omega
      have hc3 : ((c.toNat : Int)) ≤ 255 := by have := c.toNat_lt; omega
      have HPa := hide pa; have HPf := hide pf; have HQ := hide q; have HLok := hide lok
      have qk := q k hk3; have qfk := qf k
      obtain ⟨c0, c1, c2, fz, bN, bb, nw, nu, wd, us, mp⟩ := pa
      have hNlt : N < wr.heap.size := block_lt_of_cell c0
      have fz2 := fz 2
      clear bl pf lok q wd us mp nw nu fz c1 bb hc qf
      by_cases hreg : c = 114
      · subst hreg
        clear hc3
        have hk3' : (k : Int) < 3 := by omega
        have hrb : regB t.text.data.toList = true := by have := HFk.out; rw [hcd] at this; exact this
        have HRg := hide (fun w2 => register_reg t.text w2 hrb)
        go_wp2_with fail
        refine (unhide HRg _).mono ?_
        rintro e w2 ⟨rfl, hw2⟩
        obtain rfl := hw2.symm
        go_wp2_with fail
        obtain ⟨_, _, _, v1, v2, v3⟩ := regB_val hrb
        have eP : layP n ps.words.length k t ls = { ls with r := fun j => if j = k then regV t.text.data.toList else ls.r j } := by unfold layP; rw [if_pos hcd]
        refine ⟨⟨k + 1, { ls with r := fun j => if j = k then regV t.text.data.toList else ls.r j }, vu', by omega, by go_num, rfl, ?_, ?_, ?_⟩, by simp [intOf]; omega⟩
        · exact (HI.out.setReg k hk3 _ (by omega) (by omega)).above ((Below.refl _ _).alloc (Nat.le_refl _) _)
        · have := HUl.out
          show ls.u.length ≤ ps.uses.length + (k + 1)
          omega
        · have := HG.out
          rw [HDr.out, layGo, eP] at this
          exact this
      · have hc114 : ¬ (c.toNat : Int) = 114 := fun e => hreg (UInt8.toNat_inj.1 (by show c.toNat = 114; omega))
        have hrow : ¬ (rowPt n).getD k 0 = 114 := by rw [hcd]; exact hreg
        have hTs : Hid (∀ w2, Below (wr.alloc (.cells #[.string t.text, .int .i64 t.fl, .int .i64 t.fc, .int .i64 t.bl, .int .i64 t.bc] 209)).heap.size (wr.alloc (.cells #[.string t.text, .int .i64 t.fl, .int .i64 t.fc, .int .i64 t.bl, .int .i64 t.bc] 209)) w2 → Below wr.heap.size wr w2) := fun w2 hb => ((Below.refl _ _).alloc (Nat.le_refl _) _).trans (hb.mono (by rw [size_alloc1]; omega))
        cases hnum : numOK t.text.data.toList
        · have HNo := hide (fun w2 => number_no t.text w2 hnum HTx.out)
          go_wp2_with fail
          refine (unhide HNo _).mono ?_
          rintro e w2 ⟨rfl, hb2⟩
          have HB2 := hide (hTs.out w2 hb2)
          have x0 : w2.cell? ⟨wr.heap.size, 0, none⟩ = some (.string t.text) := by rw [below_cell' hb2 _ _ (by rw [size_alloc1]; omega), World.cell?_alloc_at (hn := rfl)]; rfl
          have x1 : w2.cell? ⟨wr.heap.size, 1, none⟩ = some (.int .i64 t.fl) := by rw [below_cell' hb2 _ _ (by rw [size_alloc1]; omega), World.cell?_alloc_at (hn := rfl)]; rfl
          have x2 : w2.cell? ⟨wr.heap.size, 2, none⟩ = some (.int .i64 t.fc) := by rw [below_cell' hb2 _ _ (by rw [size_alloc1]; omega), World.cell?_alloc_at (hn := rfl)]; rfl
          have x3 : w2.cell? ⟨wr.heap.size, 3, none⟩ = some (.int .i64 t.bl) := by rw [below_cell' hb2 _ _ (by rw [size_alloc1]; omega), World.cell?_alloc_at (hn := rfl)]; rfl
          have x4 : w2.cell? ⟨wr.heap.size, 4, none⟩ = some (.int .i64 t.bc) := by rw [below_cell' hb2 _ _ (by rw [size_alloc1]; omega), World.cell?_alloc_at (hn := rfl)]; rfl
          have hTlt : wr.heap.size < w2.heap.size := block_lt_of_cell x0
          have HI2 := hide (HI.out.above HB2.out)
          have y0 := HI2.out.pa.c0
          have y2 := HI2.out.pa.c2
          have yf2 := HI2.out.pa.fz 2
          have hN2 : N < w2.heap.size := HI2.out.pa.nlt
          obtain ⟨inf, hinf, hz, hsz6, hby⟩ := infoUse
          have HInf := hide hinf; have HZ := hide hz; have HSz := hide hsz6; have HBy := hide hby
          clear hinf hz hsz6 hby hb2 c0 c2 t0 t1 t2 t3 t4
          go_wp2_with fail
          refine held_tail 12 2 (fun w' => w'.cell? ⟨N, 0, none⟩ = some (.slice wa ps.words.length wc) ∧ w'.cell? ⟨N, 2, none⟩ = some vu' ∧ w'.cell? ⟨wr.heap.size, 0, none⟩ = some (.string t.text) ∧ w'.cell? ⟨wr.heap.size, 1, none⟩ = some (.int .i64 t.fl) ∧ w'.cell? ⟨wr.heap.size, 2, none⟩ = some (.int .i64 t.fc) ∧ w'.cell? ⟨wr.heap.size, 3, none⟩ = some (.int .i64 t.bl) ∧ w'.cell? ⟨wr.heap.size, 4, none⟩ = some (.int .i64 t.bc)) (by kernel_rfl) (by kernel_rfl) (fun d _ _ _ _ h => by cases d <;> exact h) ⟨y0, y2, x0, x1, x2, x3, x4⟩ ?_
          simp only [List.take_succ_cons, List.take_zero, List.drop_succ_cons, List.drop_zero]
          iterate 12
            refine wpTake_step ?_ rfl ?_ ?_
            rotate_left
            · rintro w' ⟨d0, d2, e0, e1, e2, e3, e4⟩
              go_simp
              rfl
            go_simp
          refine wpTake_nil ?_
          refine wpTail_step rfl (fun K hK => ?_)
          go_simp
          have HIa : Hid (LInv B N n ps (.slice wa ps.words.length wc) b vu w ((w2.alloc (.cells #[.int .i64 (ps.words.length : Int), .string t.text, .int .i64 t.fl, .int .i64 t.fc, .int .i64 t.bl, .int .i64 t.bc] 213)).drew) ls vu') := HI2.out.above ((Below.refl _ _).alloc (Nat.le_refl _) _).drew
          refine hK _ _ ⟨(cellD w2 _ hN2 0).trans y0, (cellD w2 _ hN2 2).trans y2, (cellD w2 _ hTlt 0).trans x0, (cellD w2 _ hTlt 1).trans x1, (cellD w2 _ hTlt 2).trans x2, (cellD w2 _ hTlt 3).trans x3, (cellD w2 _ hTlt 4).trans x4⟩ ?_
          clear hK K
          refine wpTail_step rfl (fun K hK => ?_)
          refine wp_append_lies _ _ _ 174 rfl B 213 inf _ 6 56 Tryd.underlying174 HInf.out HZ.out HSz.out HBy.out rfl (by decide) vu' ls.u.length (useCs ls.u) rfl HIa.out.pa.us ⟨w2.heap.size, 0, none⟩ 1 1 (useC (ps.words.length, t)) rfl rfl (World.news_of_block (_root_.Go.heap_alloc_new w2 _)) (fun u hu => by simp [useC, tokC] at hu; rcases hu with rfl | rfl | rfl | rfl | rfl | rfl <;> rfl) (by decide) (by unfold maxLen; omega) (by omega) (Nat.le_trans HIa.out.pa.bN (Nat.le_of_lt HIa.out.pa.nlt)) (w2.heap.size + 1) (by show (w2.alloc _).heap.size = _; rw [size_alloc1]) ?_
          intro g1' cap1 w3 hown1 hgr hat hlt3
          have hsz2 : ((w2.alloc (.cells #[.int .i64 (ps.words.length : Int), .string t.text, .int .i64 t.fl, .int .i64 t.fc, .int .i64 t.bl, .int .i64 t.bc] 213)).drew).heap.size = w2.heap.size + 1 := size_alloc1 _ _
          have HU5 : Hid (ls.u.length + 1 ≤ 5000) := by have := HUl.out; show ls.u.length + 1 ≤ 5000; omega
          have HFin := hide (HIa.out.appU (ps.words.length, t) g1' cap1 hown1 hgr (hat.imp id (fun e => by rw [hsz2]; omega)) HU5.out)
          have hTv : vu'.ownBlock ≠ some wr.heap.size := fun e => by have := (row_lt HI.out.pa.us _ e).2; omega
          have hNv : vu'.ownBlock ≠ some N := fun e => HI.out.pa.nu N e rfl
          have kN : ∀ j, w3.cell? ⟨N, j, none⟩ = w2.cell? ⟨N, j, none⟩ := fun j => (hgr.cell_far ⟨N, j, none⟩ (by rw [hsz2]; show N < _; omega) (fun e => hNv e.symm)).trans (cellD w2 _ hN2 j)
          have kT : ∀ j, w3.cell? ⟨wr.heap.size, j, none⟩ = w2.cell? ⟨wr.heap.size, j, none⟩ := fun j => (hgr.cell_far ⟨wr.heap.size, j, none⟩ (by rw [hsz2]; show wr.heap.size < _; omega) (fun e => hTv e.symm)).trans (cellD w2 _ hTlt j)
          have kf : w3.frozen? ⟨N, 2, none⟩ = false := (hgr.frozen_far ⟨N, 2, none⟩ (by rw [hsz2]; show N < _; omega) (fun e => hNv e.symm)).trans (HIa.out.pa.fz 2)
          refine hK _ _ ⟨(kN 0).trans y0, (kN 2).trans y2, (kT 0).trans x0, (kT 1).trans x1, (kT 2).trans x2, (kT 3).trans x3, (kT 4).trans x4⟩ ?_
          have z2 := (kN 2).trans y2
          clear hown1 hgr hat hK K kT kN x0 x1 x2 x3 x4 HI HI2 HIa HPa y0 y2 hsz2
          unfold wpTailS
          go_wp2_with fail
          have eP : layP n ps.words.length k t ls = { ls with u := ls.u ++ [(ps.words.length, t)] } := by unfold layP; rw [if_neg hrow, if_neg (by rw [hnum]; decide)]
          refine ⟨⟨k + 1, { ls with u := ls.u ++ [(ps.words.length, t)] }, .slice (some ⟨g1', 0, none⟩) (ls.u.length + 1) cap1, by omega, by go_num, rfl, HFin.out, ?_, ?_⟩, by simp [intOf]; omega⟩
          · have := HUl.out
            show (ls.u ++ [(ps.words.length, t)]).length ≤ ps.uses.length + (k + 1)
            rw [List.length_append, List.length_singleton]
            omega
          · have := HG.out
            rw [HDr.out, layGo, eP] at this
            exact this
        · have HNo := hide (fun w2 => number_yes t.text w2 hnum HTx.out)
          go_wp2_with fail
          refine (unhide HNo _).mono ?_
          rintro e w2 ⟨rfl, hb2⟩
          have HB2 := hide (hTs.out w2 hb2)
          clear hb2
          go_wp2_with fail
          have eP : layP n ps.words.length k t ls = { ls with k := valD t.text.data.toList } := by unfold layP; rw [if_neg hrow, if_pos hnum]
          have hl2 : LOK n (layP n ps.words.length k t ls) := HLok.out.step HFk.out
          rw [eP] at hl2
          refine ⟨⟨k + 1, { ls with k := valD t.text.data.toList }, vu', by omega, by go_num, rfl, ?_, ?_, ?_⟩, by simp [intOf]; omega⟩
          · have hh := HI.out.above HB2.out
            exact ⟨hh.pa, hh.pf, hh.g1, hh.g2, hh.q, hh.qf, hh.i0, hh.i1, hl2, hh.ul, hh.bw⟩
          · have := HUl.out
            show ls.u.length ≤ ps.uses.length + (k + 1)
            omega
          · have := HG.out
            rw [HDr.out, layGo, eP] at this
            exact this
    · have hkn : k = parts.length := by omega
      subst hkn
      have hgo : layGo n ps.words.length 0 parts (ls0 ps.uses) = ls := by rw [← HG.out, List.drop_of_length_le (Nat.le_refl _)]; rfl
      have HGo := hide hgo
      clear HRow hgo HG
      have q0 := q 0 (by decide); have q1 := q 1 (by decide); have q2 := q 2 (by decide)
      have c0 := pa.c0
      have fz0 := pa.fz 0
      obtain ⟨inf, hinf, hz, hsz1, hby⟩ := infoInt
      have HInf := hide hinf; have HZ := hide hz; have HSz := hide hsz1; have HBy := hide hby
      have HLok := hide lok
      clear hinf hz hsz1 hby pa bl pf q qf lok
      have HApp : Hid (∀ (x : Int) (w2 : World), Below wr.heap.size wr w2 → ∀ (g cap : Nat) (w3 : World), w3.ownsRow B 3 1 (.slice (some ⟨g, 0, none⟩) (ps.words.length + 1) cap) (ps.words.length + 1) (intCs ps.words ++ [.int .i64 x]) → w2.grownBy w3 (Value.slice wa ps.words.length wc).ownBlock → ((Value.slice wa ps.words.length wc).ownBlock = some g ∨ w2.heap.size ≤ g) →
          w3.cell? ⟨N, 0, none⟩ = some (.slice wa ps.words.length wc) ∧ w3.frozen? ⟨N, 0, none⟩ = false ∧ ProgAt B N { ps with uses := ls.u, words := ps.words ++ [x] } (.slice (some ⟨g, 0, none⟩) (ps.words.length + 1) cap) b vu' (w3.setCell ⟨N, 0, none⟩ (.slice (some ⟨g, 0, none⟩) (ps.words.length + 1) cap)) ∧ PFr B N b (.slice wa ps.words.length wc) vu (.slice (some ⟨g, 0, none⟩) (ps.words.length + 1) cap) vu' w (w3.setCell ⟨N, 0, none⟩ (.slice (some ⟨g, 0, none⟩) (ps.words.length + 1) cap))) := by
        intro x w2 hb2 g cap w3 ho hgr ha
        have hh := HI.out.above hb2
        have hN2 := hh.pa.nlt
        have hNv : (Value.slice wa ps.words.length wc).ownBlock ≠ some N := fun e => hh.pa.nw N e rfl
        exact ⟨(hgr.cell_far ⟨N, 0, none⟩ hN2 (fun e => hNv e.symm)).trans hh.pa.c0, (hgr.frozen_far ⟨N, 0, none⟩ hN2 (fun e => hNv e.symm)).trans (hh.pa.fz 0), hh.pa.appW x g cap ho hgr ha,
          hh.pf.app (Nat.le_trans hh.pa.bN (Nat.le_of_lt hN2)) hh.pa.bN hgr (fun k hk => ⟨.inr (.inr (.inl hk)), (row_lt hh.pa.wd k hk).1⟩) (fun k hk => by
            rcases hk with hk | hk | hk | hk
            · exact .inl (.inl hk)
            · exact .inl (.inr (.inl hk))
            · cases hk
              exact ha.imp (fun e => .inr (.inr (.inl e))) id
            · exact .inl (.inr (.inr (.inr hk)))) _ _⟩
      have HOwn : Hid (∀ (w2 : World), Below wr.heap.size wr w2 → ∀ o, (w2.alloc o).ownsRow B 3 1 (.slice wa ps.words.length wc) ps.words.length (intCs ps.words) ∧ B ≤ (w2.alloc o).heap.size ∧ Below wr.heap.size wr (w2.alloc o)) := by
        intro w2 hb2 o
        have hb3 : Below wr.heap.size wr (w2.alloc o) := hb2.trans ((Below.refl _ _).alloc (hb2.size) _)
        have hh := HI.out.above hb3
        exact ⟨hh.pa.wd, Nat.le_trans hh.pa.bN (Nat.le_of_lt hh.pa.nlt), hb3⟩
      by_cases h11 : n = 11
      · subst h11
        simp only [rowOp] at g1
        go_wp2_with (at_builtin; refine wpList_append_lies _ rfl _ _ 36 rfl B 3 inf _ 1 8 Tryd.underlying36 HInf.out HZ.out HSz.out HBy.out rfl (by decide) (.slice wa ps.words.length wc) ps.words.length (intCs ps.words) rfl (HOwn.out wr (Below.refl _ _) _).1 ⟨wr.heap.size, 0, none⟩ 1 1 [.int .i64 ls.k] rfl rfl (World.news_of_block (_root_.Go.heap_alloc_new wr _)) (fun u hu => by simp at hu; subst hu; rfl) (by decide) (by unfold maxLen; omega) (by omega) (HOwn.out wr (Below.refl _ _) _).2.1 (wr.heap.size + 1) (by rw [size_alloc1]) ?_; intro g2' cap2 w3 hown2 hgr2 hat2 hlt2; obtain ⟨z0, zf, z3, z4⟩ := HApp.out ls.k _ (HOwn.out wr (Below.refl _ _) _).2.2 g2' cap2 w3 hown2 hgr2 (hat2.imp id (fun e => by rw [size_alloc1]; omega)); have Z3 := hide z3; have Z4 := hide z4; clear hown2 hgr2 hat2 z3 z4)
        go_end0
        have eS : layS 11 parts ps = { ps with uses := ls.u, words := ps.words ++ [ls.k] } := by unfold layS; rw [HGo.out]; rfl
        rw [eS]
        exact ⟨rfl, _, _, Z3.out, Z4.out⟩
      · have ho : 0 ≤ rowOp n ∧ rowOp n ≤ 10 := by
          rw [rowOp_lt n (by omega)]; omega
        have hne : ¬ rowOp n = -1 := by omega
        obtain ⟨l1, l2, l3, _⟩ := HLok.out
        have HJ := hide (fun w2 => join_any (rowOp n) (ls.r 0) (ls.r 1) (ls.r 2) ls.k w2 ho.1 ho.2 (l1 0).1 (l1 0).2 (l1 1).1 (l1 1).2 (l1 2).1 (l1 2).2 l2 (l3 h11))
        have HWd : Hid (wordOf n ls = rowOp n * 16777216 + ls.r 0 * 1048576 + ls.r 1 * 65536 + ls.r 2 * 4096 + ls.k) := by unfold Hid wordOf; rw [if_neg hne]
        clear l1 l2 l3 ho
        go_wp2_with fail
        refine (unhide HJ _).mono ?_
        rintro e w2 ⟨rfl, hb2⟩
        rw [← HWd.out]
        generalize hwd : wordOf n ls = wd at *
        have HWe := hide hwd
        clear hwd
        have HBj := hide hb2
        have y0 := (below_cell' hb2 N 0 (HI.out.pa.nlt)).trans c0
        clear hb2 HJ c0 fz0
        go_wp2_with (at_builtin; refine wpList_append_lies _ rfl _ _ 36 rfl B 3 inf _ 1 8 Tryd.underlying36 HInf.out HZ.out HSz.out HBy.out rfl (by decide) (.slice wa ps.words.length wc) ps.words.length (intCs ps.words) rfl (HOwn.out w2 HBj.out _).1 ⟨w2.heap.size, 0, none⟩ 1 1 [.int .i64 wd] rfl rfl (World.news_of_block (_root_.Go.heap_alloc_new w2 _)) (fun u hu => by simp at hu; subst hu; rfl) (by decide) (by unfold maxLen; omega) (by omega) (HOwn.out w2 HBj.out _).2.1 (w2.heap.size + 1) (by rw [size_alloc1]) ?_; intro g2' cap2 w3 hown2 hgr2 hat2 hlt2; obtain ⟨z0, zf, z3, z4⟩ := HApp.out wd _ (HOwn.out w2 HBj.out _).2.2 g2' cap2 w3 hown2 hgr2 (hat2.imp id (fun e => by rw [size_alloc1]; omega)); have Z3 := hide z3; have Z4 := hide z4; clear hown2 hgr2 hat2 z3 z4)
        go_end0
        have eS : layS n parts ps = { ps with uses := ls.u, words := ps.words ++ [wd] } := by unfold layS; rw [HGo.out, HWe.out]
        rw [eS]
        exact ⟨rfl, _, _, Z3.out, Z4.out⟩
end Go.Proofs.YtmmflekajbeamaaDoor
