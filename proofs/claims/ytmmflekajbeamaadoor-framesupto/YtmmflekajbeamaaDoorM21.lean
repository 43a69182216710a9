/-
  Plans: crib.Do; the document's Do.
  Translates: the block at a place of the memory, the program's answer (block.Block).
  Sound and Turned, as plain mathematics: a plan's text is read back, a block's text too; the steps over a block's plain words; what a plan that is taken does.
  Frames, the document's answer: the first frame of a text (cribref.first).
-/
import Derived.Test.YtmmflekajbeamaaDoorM20
import Derived.Test.YtmmflekajbeamaaDoorM19
import Derived.Test.YtmmflekajbeamaaDoorM18
import Derived.Deep.RegionHeld3
import Derived.BigQuiet
namespace Go.Proofs.YtmmflekajbeamaaDoor
open Go.RowKit

set_option maxRecDepth 100000 in
set_option maxHeartbeats 1000000 in
theorem cribDo_any (p : ByteArray) (regs mem : List Int) (w : World) (hr : regs.length = 8) (hm : mem.length = 128) (hp : p.size ≤ maxLen) :
    Calls Tryd.prog 52 #[.string p, .agg (S regs), .agg (S mem)] w (DoPost p regs mem w) := by
  have z8 := zero8
  obtain ⟨W0, hW0⟩ : ∃ W0, W0 = ((w.alloc (.cells (S regs) 31)).alloc (.cells (S mem) 32)).alloc (.cells (S (zr 8)) 31) := ⟨_, rfl⟩
  have HW := hide hW0
  have hb0 : Below w.heap.size w W0 := by rw [hW0]; exact below3 w _ _ _
  have hz0 : W0.heap.size = w.heap.size + 1 + 1 + 1 := by rw [hW0, size_alloc1, size_alloc1, size_alloc1]
  have r0 : RowI W0 w.heap.size 31 regs := by
    unfold RowI; rw [hW0, Below.heap_alloc _ _ _ (by rw [size_alloc1, size_alloc1]; omega), Below.heap_alloc _ _ _ (by rw [size_alloc1]; omega), _root_.Go.heap_alloc_new]
  have r1 : RowI W0 (w.heap.size + 1) 32 mem := by
    unfold RowI
    rw [hW0, Below.heap_alloc _ _ _ (by rw [size_alloc1, size_alloc1]; omega)]
    have := _root_.Go.heap_alloc_new (w.alloc (.cells (S regs) 31)) (.cells (S mem) 32)
    rw [size_alloc1] at this
    exact this
  have r2 : RowI W0 (w.heap.size + 1 + 1) 31 (zr 8) := by
    unfold RowI
    rw [hW0]
    have := _root_.Go.heap_alloc_new ((w.alloc (.cells (S regs) 31)).alloc (.cells (S mem) 32)) (.cells (S (zr 8)) 31)
    rw [size_alloc1, size_alloc1] at this
    exact this
  have HD := hide (plansDo_any p regs mem W0 hr hm hp)
  have HR0 := hide r0; have HR1 := hide r1; have HR2 := hide r2; have HB0 := hide hb0
  clear r0 r1 r2 hb0 hW0
  have hfin : ∀ w1 z n, Below W0.heap.size W0 w1 → z.length = 8 → (∀ w', Below w.heap.size w w' → DoPost p regs mem w (.returned (.tuple #[.agg (S z), .int .i64 n])) w') → RowI w1 (w.heap.size + 1 + 1) 31 (zr 8) ∧ DoPost p regs mem w (.returned (.tuple #[.agg (S z), .int .i64 n])) (w1.setRow (w.heap.size + 1 + 1) (S z)) := fun w1 z n hb hz hd =>
    ⟨HR2.out.keep (hb.block _ (by omega)), hd _ (below_setRow (HB0.out.trans (hb.mono (by omega))) (by omega) _)⟩
  have HFin := hide hfin
  clear hfin
  have key : ∀ e w1, DoPost p regs mem W0 e w1 → ∃ z n, e = .returned (.tuple #[.agg (S z), .int .i64 n]) ∧ z.length = 8 ∧ Below W0.heap.size W0 w1 ∧ ∀ w', Below w.heap.size w w' → DoPost p regs mem w (.returned (.tuple #[.agg (S z), .int .i64 n])) w' := fun e w1 h => by
    obtain ⟨hb, ⟨h1, rfl⟩ | ⟨h1, h2, rfl⟩ | ⟨h1, h2, rfl⟩⟩ := h
    · exact ⟨_, _, rfl, zr_len 8, hb, fun w' hb' => ⟨hb', .inl ⟨h1, rfl⟩⟩⟩
    · exact ⟨_, _, rfl, zr_len 8, hb, fun w' hb' => ⟨hb', .inr (.inl ⟨h1, h2, rfl⟩)⟩⟩
    · refine ⟨_, _, rfl, ?_, hb, fun w' hb' => ⟨hb', .inr (.inr ⟨h1, h2, rfl⟩)⟩⟩
      have hl : ((putL p (p.size / 8)).foldl (stD mem) (begD regs)).length = 16 := by
        have := (WL.fold (allW_WL h1.2 hm) (putL_ok h2) (putL p (p.size / 8)).length (begD regs) (Nat.le_refl _) (WL.beg (allW_WL h1.1 hr))).1
        rw [List.take_length] at this
        exact this
      unfold doL
      rw [List.length_take, hl]
      rfl
  have HKey := hide key
  clear key
  go_enter Tryd.func52, Tryd.ntmps52
  go_wp2_with (first | (refine wpList_loadR rfl Tryd.underlying31 size8 rfl _ rfl w.heap.size rfl (by rw [← HW.out]; exact HR0.out.isRow 8 hr) (S regs) (by rw [← HW.out]; exact HR0.out.rowD) ?_) | (refine wpList_loadR rfl Tryd.underlying32 size128 rfl _ rfl (w.heap.size + 1) rfl (by rw [← HW.out]; exact HR1.out.isRow 128 hm) (S mem) (by rw [← HW.out]; exact HR1.out.rowD) ?_))
  rw [← HW.out]
  refine (unhide HD).mono ?_
  intro e w1 hpost
  obtain ⟨z, n, rfl, hz, hb, hd⟩ := HKey.out e w1 hpost
  have HF := hide (HFin.out w1 z n hb hz hd)
  clear hpost hb hd HD HKey
  go_wp2_with (refine wpList_storeR size8 rfl _ _ rfl (w.heap.size + 1 + 1) rfl z rfl hz (HF.out.1.isRow 8 (zr_len 8)) _ rfl ?_)
  exact bodyPost_ret (v := .tuple #[.agg (S z), .int .i64 n]) (res_8 Tryd.results52 _ _ (w.heap.size + 1 + 1) z hz rfl (HF.out.1.setRow8 z) _ rfl) rfl HF.out.2
end Go.Proofs.YtmmflekajbeamaaDoor

namespace Go.Proofs.YtmmflekajbeamaaDoor
open Go.RowKit

/-- Is it a memory, and a place in it? -/
def inM (mem : List Int) (pc : Int) : Prop := allW (gz mem) 128 = true ∧ 0 ≤ pc ∧ pc < 128
theorem inM_bd {mem : List Int} (hl : mem.length = 128) (h : allW (gz mem) 128 = true) (i : Nat) : 0 ≤ mem.getD i 0 ∧ mem.getD i 0 < 4294967296 := by
  by_cases hi : i < 128
  · exact (allW_WL h hl).at hi
  · rw [List.getD_eq_getElem?_getD, List.getElem?_eq_none (by omega)]
    decide
theorem blkN_le (mem : List Int) : ∀ (f p : Nat), blkN mem f p ≤ f := by
  intro f
  induction f with
  | zero => intro p; exact Nat.le_refl _
  | succ f ih =>
    intro p
    rw [blkN]
    have := ih (p + 1)
    split
    · split <;> omega
    · omega
/-- What a call of Block leaves. -/
def BlkPost (mem : List Int) (pc : Int) (w : World) (e' : Ending) (w' : World) : Prop :=
  Below w.heap.size w w' ∧ ((inM mem pc ∧ e' = .returned (.tuple #[.string (bya (blkTxt mem pc.toNat)), .int .i64 0])) ∨ (¬ inM mem pc ∧ e' = .returned (.tuple #[.string (bya []), .int .i64 8])))
theorem BlkPost.up {mem : List Int} {pc : Int} {w w0 : World} (hb : Below w.heap.size w w0) {e : Ending} {w1 : World} (h : BlkPost mem pc w0 e w1) : BlkPost mem pc w e w1 := ⟨hb.trans (h.1.mono hb.size), h.2⟩

set_option maxRecDepth 100000 in
set_option maxHeartbeats 2000000 in
theorem block_any (mem : List Int) (pc : Int) (w : World) (ht : Tab w) (hl : mem.length = 128) :
    Calls Tryd.prog 57 #[.agg (S mem), .int .i64 pc] w (BlkPost mem pc w) := by
  obtain ⟨W0, hW0⟩ : ∃ W0, W0 = w.alloc (.cells (S mem) 32) := ⟨_, rfl⟩
  have HW := hide hW0
  have hb0 : Below w.heap.size w W0 := by rw [hW0]; exact (Below.refl _ _).alloc (Nat.le_refl _) _
  have hz0 : W0.heap.size = w.heap.size + 1 := by rw [hW0, size_alloc1]
  have r0 : RowI W0 w.heap.size 32 mem := by unfold RowI; rw [hW0, _root_.Go.heap_alloc_new]
  have H2 := hide (areWords_any w.heap.size 0 128 (gz mem) W0 (by omega) (fun i hi => by rw [Nat.zero_add]; exact r0.cell i (by omega)))
  have HR0 := hide r0; have HB0 := hide hb0
  have ht0 := ht.below ht.pos hb0
  have HBad : Hid (¬ inM mem pc → BlkPost mem pc w (.returned (.tuple #[.string (bya []), .int .i64 8])) W0) := fun h => ⟨HB0.out, .inr ⟨h, rfl⟩⟩
  clear r0 hb0 hW0
  cases hq : allW (gz mem) 128
  · rw [hq] at H2
    have HN : Hid (¬ inM mem pc) := fun h => by have := h.1; rw [hq] at this; cases this
    clear hq
    go_enter Tryd.func57, Tryd.ntmps57
    go_wp2_with fail
    rw [← HW.out]
    refine (unhide H2).mono ?_
    rintro e w' ⟨rfl, hw⟩
    obtain rfl := hw.symm
    go_wp2_with fail
    go_ret2
    exact HBad.out HN.out
  · rw [hq] at H2
    by_cases h0 : pc < 0
    · have HN : Hid (¬ inM mem pc) := fun h => by have := h.2.1; omega
      clear hq
      go_enter Tryd.func57, Tryd.ntmps57
      go_wp2_with fail
      rw [← HW.out]
      refine (unhide H2).mono ?_
      rintro e w' ⟨rfl, hw⟩
      obtain rfl := hw.symm
      go_wp2_with fail
      go_ret2
      exact HBad.out HN.out
    · by_cases h1 : 128 ≤ pc
      · have HN : Hid (¬ inM mem pc) := fun h => by have := h.2.2; omega
        clear hq
        go_enter Tryd.func57, Tryd.ntmps57
        go_wp2_with fail
        rw [← HW.out]
        refine (unhide H2).mono ?_
        rintro e w' ⟨rfl, hw⟩
        obtain rfl := hw.symm
        go_wp2_with fail
        go_ret2
        exact HBad.out HN.out
      · have HY : Hid (inM mem pc) := ⟨hq, by omega, by omega⟩
        obtain ⟨n, rfl⟩ : ∃ n : Nat, pc = (n : Int) := ⟨pc.toNat, by omega⟩
        have hm := inM_bd hl hq
        have HAt := hide (blockAt_any mem n W0 ht0 hl hm (by omega))
        have HTx := hide (fun w' => wdText_any (blkW mem n (blkN mem 8 n)) w' (by rw [blkW_len]; exact blkN_le mem 8 n) (blkW_bd mem n _ hm))
        have HE : Hid (blkTxt mem ((n : Int)).toNat = wdsT (blkW mem n (blkN mem 8 n))) := by unfold Hid; rw [Int.toNat_natCast]; rfl
        have HFin : Hid (∀ w', Below W0.heap.size W0 w' → BlkPost mem (n : Int) w (.returned (.tuple #[.string (bya (wdsT (blkW mem n (blkN mem 8 n)))), .int .i64 0])) w') := fun w' hb => ⟨HB0.out.trans (hb.mono (by omega)), .inl ⟨HY.out, by rw [HE.out]⟩⟩
        clear hq hm ht0
        generalize blkW mem n (blkN mem 8 n) = ws at *
        have h0' : ¬ (n : Int) < 0 := by omega
        have h1' : ¬ (128 : Int) ≤ (n : Int) := by omega
        go_enter Tryd.func57, Tryd.ntmps57
        go_wp2_with fail
        rw [← HW.out]
        refine (unhide H2).mono ?_
        rintro e w' ⟨rfl, hw⟩
        obtain rfl := hw.symm
        go_wp2_with (refine wpList_loadR rfl Tryd.underlying32 size128 rfl _ rfl w.heap.size rfl (HR0.out.isRow 128 hl) (S mem) HR0.out.rowD ?_)
        refine (unhide HAt).mono ?_
        rintro e w1 ⟨rfl, hb1⟩
        have HB1 := hide hb1
        clear hb1
        go_wp2_with fail
        refine (unhide HTx _).mono ?_
        rintro e w2 ⟨rfl, hb2⟩
        have HB2 : Hid (Below W0.heap.size W0 w2) := HB1.out.trans (hb2.mono HB1.out.size)
        clear hb2
        go_wp2_with fail
        go_ret2
        exact HFin.out _ HB2.out
end Go.Proofs.YtmmflekajbeamaaDoor

namespace Go.Proofs.YtmmflekajbeamaaDoor

theorem bya_get (l : List UInt8) (i : Nat) : (bya l).get! i = l.getD i 0 := by
  show l.toArray[i]! = _
  rw [List.getElem!_toArray, List.getD_eq_getElem?_getD, getElem!_def]
  cases l[i]? <;> rfl
theorem beN4 {l : List UInt8} {i v : Nat} (hv : v < 4294967296) (h : ∀ j, j < 4 → l.getD (i + j) 0 = (numB 4 v).getD j 0) : beN (bya l) i 4 = v := by
  have h0 := h 0 (by decide); have h1 := h 1 (by decide); have h2 := h 2 (by decide); have h3 := h 3 (by decide)
  simp only [numB, List.getD_cons_zero, List.getD_cons_succ, Nat.reducePow, Nat.div_one] at h0 h1 h2 h3
  simp only [beN, bya_get, h0, h1, h2, h3, UInt8.toNat_ofNat']
  omega
theorem ofNat_toNat' {n : Nat} (h : n < 256) : (UInt8.ofNat n).toNat = n := by rw [UInt8.toNat_ofNat']; omega
/-- A put that its eight bytes can tell. -/
def bdP (p : PutN) : Prop := p.kind < 256 ∧ p.d < 256 ∧ p.a < 256 ∧ p.b < 256 ∧ p.k < 4294967296
theorem okPut.bd {p : PutN} (h : okPut p) (hk : p.k < 4294967296) : bdP p := by
  obtain ⟨h1, h2, h3, h4⟩ := h
  exact ⟨by omega, by omega, by omega, by omega, hk⟩
theorem putAt_plan {ps : List PutN} {j : Nat} {p : PutN} (h : ps[j]? = some p) (hb : bdP p) : putAt (bya (planT ps)) (8 * j) = p := by
  have key : ∀ i, i < 8 → (planT ps).getD (8 * j + i) 0 = (putT p).getD i 0 := fun i hi => by
    rw [List.getD_eq_getElem?_getD, List.getD_eq_getElem?_getD, Nat.mul_comm 8 j]
    rw [show (planT ps)[j * 8 + i]? = (putT p)[i]? from flat_atG putT 8 putT_len ps j p h i hi]
  obtain ⟨b0, b1, b2, b3, b4⟩ := hb
  obtain ⟨k, d, a, b, c⟩ := p
  simp only at b0 b1 b2 b3 b4
  unfold putAt
  have e0 := key 0 (by decide); have e1 := key 1 (by decide); have e2 := key 2 (by decide); have e3 := key 3 (by decide)
  simp only [putT, List.getD_cons_zero, List.getD_cons_succ, Nat.add_zero] at e0 e1 e2 e3
  rw [bya_get, bya_get, bya_get, bya_get, e0, e1, e2, e3, ofNat_toNat' b0, ofNat_toNat' b1, ofNat_toNat' b2, ofNat_toNat' b3]
  rw [beN4 b4 (fun i hi => by
    have := key (4 + i) (by omega)
    rw [← Nat.add_assoc] at this
    rw [this]
    simp only [putT]
    rw [Nat.add_comm 4 i]
    simp only [List.getD_cons_succ])]
theorem plan_size (ps : List PutN) : (bya (planT ps)).size / 8 = ps.length := by rw [bya_size, planT_len]; omega
theorem putL_plan {ps : List PutN} (hb : ∀ p ∈ ps, bdP p) : putL (bya (planT ps)) ((bya (planT ps)).size / 8) = ps := by
  rw [plan_size]
  apply List.ext_getElem?
  intro j
  unfold putL
  rw [List.getElem?_map]
  by_cases hj : j < ps.length
  · rw [List.getElem?_range hj, List.getElem?_eq_getElem hj]
    simp only [Option.map_some]
    rw [putAt_plan (List.getElem?_eq_getElem hj) (hb _ (List.getElem_mem _))]
  · rw [List.getElem?_eq_none (by simp; omega), List.getElem?_eq_none (by omega)]
    rfl
theorem putsOK_plan {ps : List PutN} (hb : ∀ p ∈ ps, okPut p ∧ p.k < 4294967296) (hl : ps.length ≤ 10) : putsOK (bya (planT ps)) := by
  refine ⟨by rw [bya_size, planT_len]; omega, by rw [bya_size, planT_len]; omega, fun j hj => ?_⟩
  rw [plan_size] at hj
  have hm := hb _ (List.getElem_mem hj)
  rw [putAt_plan (List.getElem?_eq_getElem hj) (hm.1.bd hm.2)]
  exact hm.1

/-! ### the block at a place -/
theorem wdAt_wds {ws : List Nat} {j : Nat} {v : Nat} (h : ws[j]? = some v) (hv : v < 4294967296) : wdAt (bya (wdsT ws)) j = v := by
  unfold wdAt
  refine beN4 hv (fun i hi => ?_)
  rw [List.getD_eq_getElem?_getD, List.getD_eq_getElem?_getD, Nat.mul_comm 4 j]
  rw [show (wdsT ws)[j * 4 + i]? = (numB 4 v)[i]? from flat_atG (numB 4) 4 (fun a => numB_len 4 a) ws j v h i hi]
theorem blkN_pl (mem : List Int) : ∀ (f p j : Nat), j + 1 < blkN mem f p → plW (mem.getD (p + j) 0) = true
  | 0, p, j, h => by simp [blkN] at h
  | f + 1, p, j, h => by
    rw [blkN] at h
    split at h
    · split at h
      · rename_i h1 h2
        cases j with
        | zero => exact h2
        | succ j =>
          have := blkN_pl mem f (p + 1) j (by omega)
          rw [show p + (j + 1) = p + 1 + j by omega]
          exact this
      · omega
    · omega
theorem blkN_in (mem : List Int) : ∀ (f p : Nat), p ≤ 128 → p + blkN mem f p ≤ 128
  | 0, p, h => by simpa [blkN] using h
  | f + 1, p, h => by
    rw [blkN]
    split
    · split
      · have := blkN_in mem f (p + 1) (by omega)
        omega
      · omega
    · omega
theorem blkN_pos (mem : List Int) (f p : Nat) (h : p < 128) : 1 ≤ blkN mem (f + 1) p := by
  rw [blkN, if_pos h]
  split <;> omega
theorem blk_size (mem : List Int) (pc : Nat) : (bya (blkTxt mem pc)).size = 4 * blkN mem 8 pc := by rw [bya_size, blkTxt, wdsT_len, blkW, List.length_map, List.length_range]
section
variable {mem : List Int} {pc : Nat}
theorem blk_wd (hm : WL 128 mem) (hp : pc < 128) {j : Nat} (hj : j < blkN mem 8 pc) : ((wdAt (bya (blkTxt mem pc)) j : Nat) : Int) = mem.getD (pc + j) 0 := by
  have he := blkN_in mem 8 pc (by omega)
  have hw := hm.2 (mem.getD (pc + j) 0) (by
    rw [List.getD_eq_getElem?_getD, List.getElem?_eq_getElem (by rw [hm.1]; omega)]
    exact List.getElem_mem _)
  unfold blkTxt
  rw [wdAt_wds (ws := blkW mem pc (blkN mem 8 pc)) (v := (mem.getD (pc + j) 0).toNat) (by
    unfold blkW
    rw [List.getElem?_map, List.getElem?_range hj]; rfl) (by omega)]
  omega
theorem blk_ok (hm : WL 128 mem) (hp : pc < 128) : blkOK (bya (blkTxt mem pc)) := by
  have hs := blk_size mem pc
  have h8 := blkN_le mem 8 pc
  have h1 : 1 ≤ blkN mem 8 pc := blkN_pos mem 7 pc hp
  refine ⟨by omega, by omega, by omega, fun j hj => ?_⟩
  rw [blk_wd hm hp (by omega)]
  exact blkN_pl mem 8 pc j (by omega)
theorem blk_pl (hm : WL 128 mem) (hp : pc < 128) {j : Nat} (hj : j < nPl (bya (blkTxt mem pc))) : j < blkN mem 8 pc ∧ plW (mem.getD (pc + j) 0) = true := by
  have hs := blk_size mem pc
  have hb := blk_ok hm hp
  have hn := nPl_le (bya (blkTxt mem pc))
  have hj' : j < blkN mem 8 pc := by omega
  have := blk_plain hb hj
  rw [blk_wd hm hp hj'] at this
  exact ⟨hj', this⟩
theorem blk_put (hm : WL 128 mem) (hp : pc < 128) {j : Nat} (hj : j < nPl (bya (blkTxt mem pc))) : (blkPuts (bya (blkTxt mem pc)))[j]? = some (putW (mem.getD (pc + j) 0)) := by
  unfold blkPuts
  rw [List.getElem?_map, List.getElem?_range hj]
  simp only [Option.map_some]
  rw [blk_wd hm hp (blk_pl hm hp hj).1]
end
/-- The machine behind k of a block's plain words. -/
def stZ (regs mem : List Int) (pc k : Nat) : List Int := mkZ (((blkPuts (bya (blkTxt mem pc))).take k).foldl (rD mem) regs) mem (((pc + k : Nat) : Int) % 128) 0
theorem rDs_WL {mem : List Int} (hm : WL 128 mem) : ∀ (ps : List PutN) {regs : List Int}, WL 8 regs → (∀ p ∈ ps, okB p) → WL 8 (ps.foldl (rD mem) regs)
  | [], _, h, _ => h
  | p :: ps, _, h, hk => rDs_WL hm ps (rD_WL h hm (hk p List.mem_cons_self)) (fun q hq => hk q (List.mem_cons_of_mem _ hq))
theorem stZ_WL {regs mem : List Int} {pc : Nat} (hr : WL 8 regs) (hm : WL 128 mem) (hp : pc < 128) (k : Nat) : WL 8 (((blkPuts (bya (blkTxt mem pc))).take k).foldl (rD mem) regs) :=
  rDs_WL hm _ hr (fun p h => blkPuts_okB (blk_ok hm hp) p (List.mem_of_mem_take h))
theorem stZ_zero {regs mem : List Int} {pc : Nat} (hp : pc < 128) : stZ regs mem pc 0 = mkZ regs mem pc 0 := by
  unfold stZ
  rw [List.take_zero, List.foldl_nil]
  congr 1
  omega
theorem stZ_step {regs mem : List Int} {pc k : Nat} (hr : WL 8 regs) (hm : WL 128 mem) (hp : pc < 128) (hk : k < nPl (bya (blkTxt mem pc))) : stp (stZ regs mem pc k) = (stZ regs mem pc (k + 1), 0) := by
  obtain ⟨h1, h2⟩ := blk_pl hm hp hk
  have he := blkN_in mem 8 pc (by omega)
  have e : (((pc + k : Nat) : Int) % 128) = ((pc + k : Nat) : Int) := by omega
  unfold stZ
  rw [e, stp_plain (stZ_WL hr hm hp k) hm (by omega) h2, foldl_take_succ _ _ _ _ _ (blk_put hm hp hk)]
  congr 2
theorem stZ_stB {regs mem : List Int} {pc : Nat} (hr : WL 8 regs) (hm : WL 128 mem) (hp : pc < 128) (k : Nat) : stB (stZ regs mem pc k) = true :=
  mkZ_stB (stZ_WL hr hm hp k) hm (by omega) (by omega) (by decide) (by decide)
theorem stZ_len {regs mem : List Int} {pc : Nat} (hr : WL 8 regs) (hm : WL 128 mem) (hp : pc < 128) (k : Nat) : (stZ regs mem pc k).length = 138 := mkZ_len (stZ_WL hr hm hp k).1 hm.1
/-- A plan that comes to the same does what the block's plain words do. -/
theorem sound_do {regs mem : List Int} {pc : Nat} (hr : WL 8 regs) (hm : WL 128 mem) (hp : pc < 128) {qs : List PutN} (hq : ∀ p ∈ qs, okPut p ∧ p.k < 4294967296) (h : (comeS (blkPuts (bya (blkTxt mem pc)))).take 8 = (comeS qs).take 8) :
    (doL mem qs (begD regs)).take 8 = ((blkPuts (bya (blkTxt mem pc))).take (nPl (bya (blkTxt mem pc)))).foldl (rD mem) regs := by
  have hk := blkPuts_okB (blk_ok hm hp)
  rw [← same_do (fun p hp' => ⟨(hk p hp').2.2.2.2.2.2, (hk p hp').2.2.2.2.2.1⟩) hq h mem hr.1, doL_regs hr.1 hk, List.take_of_length_le (by rw [nPl_len]; exact Nat.le_refl _)]
theorem own_bd {s : ByteArray} (h : blkOK s) : ∀ p ∈ ownP s, okPut p ∧ p.k < 4294967296 := fun p hp => by
  have := (ownP_ok h).1 p hp
  exact ⟨this.2.2.2.2.2.2, this.2.2.2.2.2.1⟩
end Go.Proofs.YtmmflekajbeamaaDoor

namespace Go.Proofs.YtmmflekajbeamaaDoor
open Go.RowKit

set_option maxRecDepth 100000 in
set_option maxHeartbeats 1000000 in
theorem valueB_any (s : ByteArray) (i n : Nat) (w : World) (hn : n ≤ 4) (hi : i + n ≤ s.size) (hs : s.size ≤ 2000000) :
    Calls Tryd.prog 86 #[.string s, .int .i64 i, .int .i64 n] w fun e' w' => e' = .returned (.int .i64 (beN s i n)) ∧ w' = w := by
  go_enter Tryd.func86, Tryd.ntmps86
  go_wp2_with fail
  go_loop [7, 8] (fun v j => ∃ k : Nat, k ≤ n ∧ j = .int .i64 ((i + k : Nat) : Int) ∧ v = .int .i64 (beN s i k)) (fun _ j => i + n - (intOf j).toNat)
  case atStart => exact ⟨0, Nat.zero_le _, by simp, rfl⟩
  case round =>
    obtain ⟨k, hk, rfl, rfl⟩ := hrel
    by_cases hlt : k < n
    · have hlt' : ((i + k : Nat) : Int) < (i : Int) + (n : Int) := by omega
      have hin : i + k < s.size := by omega
      have hgb := bt_get s (i + k) hin
      have hbl := bt_lt s (i + k)
      have hv := beN_le3 s i k (by omega)
      have HS : Hid (beN s i (k + 1) = beN s i k * 256 + bt s (i + k)) := by unfold Hid; rw [beN_succ]
      generalize beN s i k = v at *
      have hin' : ((i + k : Nat) : Int) < (s.size : Int) := by omega
      have HJ : Hid (((i + k : Nat) : Int) + 1 = ((i + (k + 1) : Nat) : Int)) := by unfold Hid; omega
      have HM : Hid (i + n - (i + (k + 1)) < i + n - (i + k)) := by unfold Hid; omega
      generalize i + k = j at *
      go_wp2_with fail
      refine ⟨⟨k + 1, by omega, by rw [HJ.out], ?_⟩, ?_⟩
      · rw [HS.out]
        go_num
      · rw [HJ.out]; simp only [intOf, Int.toNat_natCast]; exact HM.out
    · have hkn : k = n := by omega
      subst hkn
      have hlt' : ¬ ((i + k : Nat) : Int) < (i : Int) + (k : Int) := by omega
      go_wp2_with fail
      go_ret
      exact ⟨rfl, rfl⟩
theorem lst_get (s : ByteArray) (i : Nat) : (lst s).getD i 0 = s.get! i := by
  rw [← bya_get, bya_lst]
theorem frN_be (s : ByteArray) : frN (lst s) = beN s 2 2 := by
  unfold frN
  rw [lst_get, lst_get]
  simp only [beN, Nat.add_zero, Nat.reduceAdd]
  omega
theorem lst_ext (s : ByteArray) (a b : Nat) : lst (s.extract a b) = ((lst s).drop a).take (b - a) := by
  unfold lst
  rw [ByteArray.data_extract, Array.toList_extract, List.extract_eq_take_drop]
theorem lst_inj {s t : ByteArray} : lst s = lst t ↔ s = t := ⟨fun h => by rw [← bya_lst s, h, bya_lst], fun h => by rw [h]⟩
theorem str_ne {s t : ByteArray} (h : ¬ s = t) : (s.toList == t.toList) = false := by
  rw [beq_eq_false_iff_ne]
  intro e
  rw [ByteArray.toList_eq, ByteArray.toList_eq] at e
  exact h (lst_inj.1 e)
/-- The first frame of a text, by its parts. -/
theorem frst_eq (s : ByteArray) (h8 : 8 ≤ s.size) (hn : beN s 2 2 + 8 ≤ s.size) :
    ((sealOK (bt s 1 : Nat) (s.extract 4 (4 + beN s 2 2)) ∧ s.extract 0 (8 + beN s 2 2) = bya (frT (bt s 1) (lst (s.extract 4 (4 + beN s 2 2))))) → frst (lst s) = some (bt s 1, lst (s.extract 4 (4 + beN s 2 2)))) ∧ (¬ (sealOK (bt s 1 : Nat) (s.extract 4 (4 + beN s 2 2)) ∧ s.extract 0 (8 + beN s 2 2) = bya (frT (bt s 1) (lst (s.extract 4 (4 + beN s 2 2))))) → frst (lst s) = none) := by
  have e1 : ((lst s).getD 1 0).toNat = bt s 1 := by rw [lst_get]; rfl
  have e4 : lst (s.extract 4 (4 + beN s 2 2)) = ((lst s).drop 4).take (beN s 2 2) := by rw [lst_ext, show 4 + beN s 2 2 - 4 = beN s 2 2 by omega]
  have e0 : lst (s.extract 0 (8 + beN s 2 2)) = (lst s).take (beN s 2 2 + 8) := by rw [lst_ext, List.drop_zero, show 8 + beN s 2 2 - 0 = beN s 2 2 + 8 by omega]
  have ez : (s.extract 4 (4 + beN s 2 2)).size = beN s 2 2 := by rw [ByteArray.size_extract]; omega
  unfold frst
  rw [if_neg (by rw [lst_len]; omega), frN_be, if_neg (by rw [lst_len]; omega), e1, ← e4, ← e0]
  unfold sealOK
  rw [ez]
  have hiff : (1 ≤ bt s 1 ∧ bt s 1 ≤ 3 ∧ beN s 2 2 ≤ 200 ∧ lst (s.extract 0 (8 + beN s 2 2)) = frT (bt s 1) (lst (s.extract 4 (4 + beN s 2 2)))) ↔ ((1 ≤ ((bt s 1 : Nat) : Int) ∧ ((bt s 1 : Nat) : Int) ≤ 3 ∧ beN s 2 2 ≤ 200) ∧ s.extract 0 (8 + beN s 2 2) = bya (frT (bt s 1) (lst (s.extract 4 (4 + beN s 2 2))))) := by
    rw [← lst_inj, lst_bya]
    constructor
    · rintro ⟨a, b, c, d⟩
      exact ⟨⟨by omega, by omega, c⟩, d⟩
    · rintro ⟨⟨a, b, c⟩, d⟩
      exact ⟨by omega, by omega, c, d⟩
  exact ⟨fun h => by rw [if_pos (hiff.2 h)], fun h => by rw [if_neg (fun hc => h (hiff.1 hc))]⟩
theorem frst_short (s : ByteArray) (h : s.size < 8 ∨ s.size < beN s 2 2 + 8) : frst (lst s) = none := by
  unfold frst
  by_cases h8 : s.size < 8
  · rw [if_pos (by rw [lst_len]; exact h8)]
  · rw [if_neg (by rw [lst_len]; exact h8), frN_be, if_pos (by rw [lst_len]; omega)]
/-- What the first frame is told to be. -/
def FstIs (s : ByteArray) (k : Int) (p : ByteArray) : Prop := (frst (lst s) = none ∧ k = 0 ∧ p = bya []) ∨ ∃ (K : Nat) (q : List UInt8), frst (lst s) = some (K, q) ∧ k = K ∧ p = bya q

set_option maxRecDepth 100000 in
set_option maxHeartbeats 4000000 in
theorem refFirst_any (s : ByteArray) (w : World) (hs : s.size ≤ 2000000) :
    Calls Tryd.prog 108 #[.string s] w fun e' w' => Below w.heap.size w w' ∧ ∃ k p, e' = .returned (.tuple #[.int .i64 k, .string p]) ∧ FstIs s k p := by
  by_cases h8 : s.size < 8
  · have HN := hide (frst_short s (.inl h8))
    have h8' : (s.size : Int) < 8 := by omega
    go_enter Tryd.func108, Tryd.ntmps108
    go_wp2_with fail
    go_ret2
    exact ⟨Below.refl _ _, _, _, rfl, .inl ⟨HN.out, rfl, rfl⟩⟩
  have h8' : ¬ (s.size : Int) < 8 := by omega
  have HV := hide (fun w' => valueB_any s 2 2 w' (by decide) (by omega) hs)
  by_cases hn : s.size < beN s 2 2 + 8
  · have HN := hide (frst_short s (.inr hn))
    have hb : beN s 2 2 < 65536 := beN_lt s 2 2
    have hn' : (s.size : Int) < (beN s 2 2 : Int) + 8 := by omega
    generalize beN s 2 2 = n at *
    go_enter Tryd.func108, Tryd.ntmps108
    go_wp2_with fail
    refine (unhide HV _).mono ?_
    rintro e w' ⟨rfl, hw⟩
    obtain rfl := hw.symm
    go_wp2_with fail
    go_ret2
    exact ⟨Below.refl _ _, _, _, rfl, .inl ⟨HN.out, rfl, rfl⟩⟩
  have HE := hide (frst_eq s (by omega) (by omega))
  have hb : beN s 2 2 < 65536 := beN_lt s 2 2
  have hn' : ¬ (s.size : Int) < (beN s 2 2 : Int) + 8 := by omega
  have hg1 := bt_get s 1 (by omega)
  have hbl := bt_lt s 1
  have HSl := hide (fun w' => refSeal_any (bt s 1 : Nat) (s.extract 4 (4 + beN s 2 2)) w')
  have v1 : IntKind.i64.wrap (4 + (beN s 2 2 : Int)) = 4 + (beN s 2 2 : Int) := by rw [IntKind.wrap_i64]; omega
  have v2 : (4 : Int) ≤ 4 + (beN s 2 2 : Int) := by omega
  have v3 : 4 + (beN s 2 2 : Int) ≤ (s.size : Int) := by omega
  have v4 : (0 : Int) ≤ 4 + (beN s 2 2 : Int) := by omega
  have v5 : (4 + (beN s 2 2 : Int)).toNat = 4 + beN s 2 2 := by omega
  have v6 : (8 + (beN s 2 2 : Int)).toNat = 8 + beN s 2 2 := by omega
  have v7 : 8 + (beN s 2 2 : Int) ≤ (s.size : Int) := by omega
  have v8 : (0 : Int) ≤ 8 + (beN s 2 2 : Int) := by omega
  have v9 : IntKind.i64.wrap (bt s 1 : Int) = (bt s 1 : Int) := by rw [IntKind.wrap_i64]; omega
  generalize beN s 2 2 = n at *
  generalize bt s 1 = K at *
  go_enter Tryd.func108, Tryd.ntmps108
  go_wp2_with fail
  refine (unhide HV _).mono ?_
  rintro e w' ⟨rfl, hw⟩
  obtain rfl := hw.symm
  go_upto_region 6 with fail
  go_region_held3 (fun _ => True) (trivial) ((go_at_call 65; refine (unhide HSl _).mono ?_; intro e w1 hpost; obtain ⟨D, m, rfl⟩ := hpost.form; have HP1 := hide hpost; clear hpost))
  obtain ⟨hb1, ⟨hok, heq⟩ | ⟨hno, heq⟩⟩ := HP1.out
  · simp only [Int.toNat_natCast, Ending.returned.injEq, Value.tuple.injEq] at heq
    obtain ⟨rfl, rfl⟩ : D = bya (frT K (lst (s.extract 4 (4 + n)))) ∧ m = 0 := by simpa using heq
    have HB1 : Hid (Below w.heap.size w w1) := (show Below w.heap.size w w.drew from (Below.refl _ w).drew).trans hb1
    have HOk := hide hok
    have HP : Hid (bya (lst (s.extract 4 (4 + n))) = s.extract 4 (4 + n)) := bya_lst _
    clear hb1 hok heq HP1 HSl
    by_cases hq : s.extract 0 (8 + n) = bya (frT K (lst (s.extract 4 (4 + n))))
    · have HR := hide (HE.out.1 ⟨HOk.out, hq⟩)
      rw [← hq]
      clear hq
      go_upto_region 9 with fail
      go_quiet (fail)
      go_wp2_with fail
      go_ret2
      exact ⟨below_drewN HB1.out nq, _, _, rfl, .inr ⟨_, _, HR.out, rfl, HP.out.symm⟩⟩
    · have HR := hide (HE.out.2 (fun h => hq h.2))
      obtain ⟨D, hD⟩ : ∃ D, D = bya (frT K (lst (s.extract 4 (4 + n)))) := ⟨_, rfl⟩
      rw [← hD] at hq
      rw [← hD]
      have hqb := str_ne hq
      clear hD hq
      go_wp2_with fail
      go_ret2
      exact ⟨HB1.out, _, _, rfl, .inl ⟨HR.out, rfl, rfl⟩⟩
  · obtain ⟨rfl, rfl⟩ : D = bya [] ∧ m = 1 := by simpa using heq
    have HB1 : Hid (Below w.heap.size w w1) := (show Below w.heap.size w w.drew from (Below.refl _ w).drew).trans hb1
    have HR := hide (HE.out.2 (fun h => hno h.1))
    clear hb1 hno heq HP1 HSl
    go_wp2_with fail
    go_ret2
    exact ⟨HB1.out, _, _, rfl, .inl ⟨HR.out, rfl, rfl⟩⟩
end Go.Proofs.YtmmflekajbeamaaDoor
