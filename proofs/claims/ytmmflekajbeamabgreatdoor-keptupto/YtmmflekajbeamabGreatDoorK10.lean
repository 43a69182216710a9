/-
  Plans: the puts of a plan's text, by the document's answer (cribref.Puts).
  Plans: crib.Do; the document's Do.
  Translates: the block at a place of the memory, the program's answer (block.Block).
  Sound and Turned, as plain mathematics: a plan's text is read back, a block's text too; the steps over a block's plain words; what a plan that is taken does.
  Frames, the document's answer: the first frame of a text (cribref.first).
  Frames: the first frame of a text (strings.HasPrefix, frame.first).
  Frames: an area in memory; frames that open and end one (takeOpen, takeWhole).
-/
import Derived.Test.YtmmflekajbeamabGreatDoorK04
import Derived.BigRegion
import Derived.Deep.Cut
import Derived.Deep.CutRange
import Derived.Test.YtmmflekajbeamabGreatDoorK09
import Derived.Test.YtmmflekajbeamabGreatDoorK08
import Derived.Deep.RegionHeld3
import Derived.BigQuiet
import Derived.Test.YtmmflekajbeamabGreatDoorK06
import Derived.Test.YtmmflekajbeamabGreatDoorK05
namespace Go.Proofs.YtmmflekajbeamabGreatDoor
open Go.RowKit

end Go.Proofs.YtmmflekajbeamabGreatDoor

namespace Go.Proofs.YtmmflekajbeamabGreatDoor
open Go.RowKit

end Go.Proofs.YtmmflekajbeamabGreatDoor

namespace Go.Proofs.YtmmflekajbeamabGreatDoor
open Go.RowKit

theorem blkN_le (mem : List Int) : ∀ (f p : Nat), blkN mem f p ≤ f := by
  intro f
  induction f with
  | zero => intro p; exact Nat.le_refl _
  | succ f ih =>
    intro p
    rw [blkN]
    have := ih (p + 1)
    split
    · split <;> omega
    · omega
end Go.Proofs.YtmmflekajbeamabGreatDoor

namespace Go.Proofs.YtmmflekajbeamabGreatDoor

theorem bya_get (l : List UInt8) (i : Nat) : (bya l).get! i = l.getD i 0 := by
  show l.toArray[i]! = _
  rw [List.getElem!_toArray, List.getD_eq_getElem?_getD, getElem!_def]
  cases l[i]? <;> rfl
theorem beN4 {l : List UInt8} {i v : Nat} (hv : v < 4294967296) (h : ∀ j, j < 4 → l.getD (i + j) 0 = (numB 4 v).getD j 0) : beN (bya l) i 4 = v := by
  have h0 := h 0 (by decide); have h1 := h 1 (by decide); have h2 := h 2 (by decide); have h3 := h 3 (by decide)
  simp only [numB, List.getD_cons_zero, List.getD_cons_succ, Nat.reducePow, Nat.div_one] at h0 h1 h2 h3
  simp only [beN, bya_get, h0, h1, h2, h3, UInt8.toNat_ofNat']
  omega
theorem ofNat_toNat' {n : Nat} (h : n < 256) : (UInt8.ofNat n).toNat = n := by rw [UInt8.toNat_ofNat']; omega
/-- A put that its eight bytes can tell. -/
def bdP (p : PutN) : Prop := p.kind < 256 ∧ p.d < 256 ∧ p.a < 256 ∧ p.b < 256 ∧ p.k < 4294967296
theorem okPut.bd {p : PutN} (h : okPut p) (hk : p.k < 4294967296) : bdP p := by
  obtain ⟨h1, h2, h3, h4⟩ := h
  exact ⟨by omega, by omega, by omega, by omega, hk⟩
theorem putAt_plan {ps : List PutN} {j : Nat} {p : PutN} (h : ps[j]? = some p) (hb : bdP p) : putAt (bya (planT ps)) (8 * j) = p := by
  have key : ∀ i, i < 8 → (planT ps).getD (8 * j + i) 0 = (putT p).getD i 0 := fun i hi => by
    rw [List.getD_eq_getElem?_getD, List.getD_eq_getElem?_getD, Nat.mul_comm 8 j]
    rw [show (planT ps)[j * 8 + i]? = (putT p)[i]? from flat_atG putT 8 putT_len ps j p h i hi]
  obtain ⟨b0, b1, b2, b3, b4⟩ := hb
  obtain ⟨k, d, a, b, c⟩ := p
  simp only at b0 b1 b2 b3 b4
  unfold putAt
  have e0 := key 0 (by decide); have e1 := key 1 (by decide); have e2 := key 2 (by decide); have e3 := key 3 (by decide)
  simp only [putT, List.getD_cons_zero, List.getD_cons_succ, Nat.add_zero] at e0 e1 e2 e3
  rw [bya_get, bya_get, bya_get, bya_get, e0, e1, e2, e3, ofNat_toNat' b0, ofNat_toNat' b1, ofNat_toNat' b2, ofNat_toNat' b3]
  rw [beN4 b4 (fun i hi => by
    have := key (4 + i) (by omega)
    rw [← Nat.add_assoc] at this
    rw [this]
    simp only [putT]
    rw [Nat.add_comm 4 i]
    simp only [List.getD_cons_succ])]
theorem plan_size (ps : List PutN) : (bya (planT ps)).size / 8 = ps.length := by rw [bya_size, planT_len]; omega
theorem putL_plan {ps : List PutN} (hb : ∀ p ∈ ps, bdP p) : putL (bya (planT ps)) ((bya (planT ps)).size / 8) = ps := by
  rw [plan_size]
  apply List.ext_getElem?
  intro j
  unfold putL
  rw [List.getElem?_map]
  by_cases hj : j < ps.length
  · rw [List.getElem?_range hj, List.getElem?_eq_getElem hj]
    simp only [Option.map_some]
    rw [putAt_plan (List.getElem?_eq_getElem hj) (hb _ (List.getElem_mem _))]
  · rw [List.getElem?_eq_none (by simp; omega), List.getElem?_eq_none (by omega)]
    rfl
theorem putsOK_plan {ps : List PutN} (hb : ∀ p ∈ ps, okPut p ∧ p.k < 4294967296) (hl : ps.length ≤ 10) : putsOK (bya (planT ps)) := by
  refine ⟨by rw [bya_size, planT_len]; omega, by rw [bya_size, planT_len]; omega, fun j hj => ?_⟩
  rw [plan_size] at hj
  have hm := hb _ (List.getElem_mem hj)
  rw [putAt_plan (List.getElem?_eq_getElem hj) (hm.1.bd hm.2)]
  exact hm.1

/-! ### the block at a place -/
theorem wdAt_wds {ws : List Nat} {j : Nat} {v : Nat} (h : ws[j]? = some v) (hv : v < 4294967296) : wdAt (bya (wdsT ws)) j = v := by
  unfold wdAt
  refine beN4 hv (fun i hi => ?_)
  rw [List.getD_eq_getElem?_getD, List.getD_eq_getElem?_getD, Nat.mul_comm 4 j]
  rw [show (wdsT ws)[j * 4 + i]? = (numB 4 v)[i]? from flat_atG (numB 4) 4 (fun a => numB_len 4 a) ws j v h i hi]
theorem blkN_pl (mem : List Int) : ∀ (f p j : Nat), j + 1 < blkN mem f p → plW (mem.getD (p + j) 0) = true
  | 0, p, j, h => by simp [blkN] at h
  | f + 1, p, j, h => by
    rw [blkN] at h
    split at h
    · split at h
      · rename_i h1 h2
        cases j with
        | zero => exact h2
        | succ j =>
          have := blkN_pl mem f (p + 1) j (by omega)
          rw [show p + (j + 1) = p + 1 + j by omega]
          exact this
      · omega
    · omega
theorem blkN_in (mem : List Int) : ∀ (f p : Nat), p ≤ 128 → p + blkN mem f p ≤ 128
  | 0, p, h => by simpa [blkN] using h
  | f + 1, p, h => by
    rw [blkN]
    split
    · split
      · have := blkN_in mem f (p + 1) (by omega)
        omega
      · omega
    · omega
theorem blkN_pos (mem : List Int) (f p : Nat) (h : p < 128) : 1 ≤ blkN mem (f + 1) p := by
  rw [blkN, if_pos h]
  split <;> omega
theorem blk_size (mem : List Int) (pc : Nat) : (bya (blkTxt mem pc)).size = 4 * blkN mem 8 pc := by rw [bya_size, blkTxt, wdsT_len, blkW, List.length_map, List.length_range]
section
variable {mem : List Int} {pc : Nat}
theorem blk_wd (hm : WL 128 mem) (hp : pc < 128) {j : Nat} (hj : j < blkN mem 8 pc) : ((wdAt (bya (blkTxt mem pc)) j : Nat) : Int) = mem.getD (pc + j) 0 := by
  have he := blkN_in mem 8 pc (by omega)
  have hw := hm.2 (mem.getD (pc + j) 0) (by
    rw [List.getD_eq_getElem?_getD, List.getElem?_eq_getElem (by rw [hm.1]; omega)]
    exact List.getElem_mem _)
  unfold blkTxt
  rw [wdAt_wds (ws := blkW mem pc (blkN mem 8 pc)) (v := (mem.getD (pc + j) 0).toNat) (by
    unfold blkW
    rw [List.getElem?_map, List.getElem?_range hj]; rfl) (by omega)]
  omega
theorem blk_ok (hm : WL 128 mem) (hp : pc < 128) : blkOK (bya (blkTxt mem pc)) := by
  have hs := blk_size mem pc
  have h8 := blkN_le mem 8 pc
  have h1 : 1 ≤ blkN mem 8 pc := blkN_pos mem 7 pc hp
  refine ⟨by omega, by omega, by omega, fun j hj => ?_⟩
  rw [blk_wd hm hp (by omega)]
  exact blkN_pl mem 8 pc j (by omega)
theorem blk_pl (hm : WL 128 mem) (hp : pc < 128) {j : Nat} (hj : j < nPl (bya (blkTxt mem pc))) : j < blkN mem 8 pc ∧ plW (mem.getD (pc + j) 0) = true := by
  have hs := blk_size mem pc
  have hb := blk_ok hm hp
  have hn := nPl_le (bya (blkTxt mem pc))
  have hj' : j < blkN mem 8 pc := by omega
  have := blk_plain hb hj
  rw [blk_wd hm hp hj'] at this
  exact ⟨hj', this⟩
theorem blk_put (hm : WL 128 mem) (hp : pc < 128) {j : Nat} (hj : j < nPl (bya (blkTxt mem pc))) : (blkPuts (bya (blkTxt mem pc)))[j]? = some (putW (mem.getD (pc + j) 0)) := by
  unfold blkPuts
  rw [List.getElem?_map, List.getElem?_range hj]
  simp only [Option.map_some]
  rw [blk_wd hm hp (blk_pl hm hp hj).1]
end
/-- The machine behind k of a block's plain words. -/
def stZ (regs mem : List Int) (pc k : Nat) : List Int := mkZ (((blkPuts (bya (blkTxt mem pc))).take k).foldl (rD mem) regs) mem (((pc + k : Nat) : Int) % 128) 0
theorem rDs_WL {mem : List Int} (hm : WL 128 mem) : ∀ (ps : List PutN) {regs : List Int}, WL 8 regs → (∀ p ∈ ps, okB p) → WL 8 (ps.foldl (rD mem) regs)
  | [], _, h, _ => h
  | p :: ps, _, h, hk => rDs_WL hm ps (rD_WL h hm (hk p List.mem_cons_self)) (fun q hq => hk q (List.mem_cons_of_mem _ hq))
theorem stZ_WL {regs mem : List Int} {pc : Nat} (hr : WL 8 regs) (hm : WL 128 mem) (hp : pc < 128) (k : Nat) : WL 8 (((blkPuts (bya (blkTxt mem pc))).take k).foldl (rD mem) regs) :=
  rDs_WL hm _ hr (fun p h => blkPuts_okB (blk_ok hm hp) p (List.mem_of_mem_take h))
theorem stZ_zero {regs mem : List Int} {pc : Nat} (hp : pc < 128) : stZ regs mem pc 0 = mkZ regs mem pc 0 := by
  unfold stZ
  rw [List.take_zero, List.foldl_nil]
  congr 1
  omega
theorem stZ_step {regs mem : List Int} {pc k : Nat} (hr : WL 8 regs) (hm : WL 128 mem) (hp : pc < 128) (hk : k < nPl (bya (blkTxt mem pc))) : stp (stZ regs mem pc k) = (stZ regs mem pc (k + 1), 0) := by
  obtain ⟨h1, h2⟩ := blk_pl hm hp hk
  have he := blkN_in mem 8 pc (by omega)
  have e : (((pc + k : Nat) : Int) % 128) = ((pc + k : Nat) : Int) := by omega
  unfold stZ
  rw [e, stp_plain (stZ_WL hr hm hp k) hm (by omega) h2, foldl_take_succ _ _ _ _ _ (blk_put hm hp hk)]
  congr 2
theorem stZ_stB {regs mem : List Int} {pc : Nat} (hr : WL 8 regs) (hm : WL 128 mem) (hp : pc < 128) (k : Nat) : stB (stZ regs mem pc k) = true :=
  mkZ_stB (stZ_WL hr hm hp k) hm (by omega) (by omega) (by decide) (by decide)
theorem stZ_len {regs mem : List Int} {pc : Nat} (hr : WL 8 regs) (hm : WL 128 mem) (hp : pc < 128) (k : Nat) : (stZ regs mem pc k).length = 138 := mkZ_len (stZ_WL hr hm hp k).1 hm.1
/-- A plan that comes to the same does what the block's plain words do. -/
theorem sound_do {regs mem : List Int} {pc : Nat} (hr : WL 8 regs) (hm : WL 128 mem) (hp : pc < 128) {qs : List PutN} (hq : ∀ p ∈ qs, okPut p ∧ p.k < 4294967296) (h : (comeS (blkPuts (bya (blkTxt mem pc)))).take 8 = (comeS qs).take 8) :
    (doL mem qs (begD regs)).take 8 = ((blkPuts (bya (blkTxt mem pc))).take (nPl (bya (blkTxt mem pc)))).foldl (rD mem) regs := by
  have hk := blkPuts_okB (blk_ok hm hp)
  rw [← same_do (fun p hp' => ⟨(hk p hp').2.2.2.2.2.2, (hk p hp').2.2.2.2.2.1⟩) hq h mem hr.1, doL_regs hr.1 hk, List.take_of_length_le (by rw [nPl_len]; exact Nat.le_refl _)]
theorem own_bd {s : ByteArray} (h : blkOK s) : ∀ p ∈ ownP s, okPut p ∧ p.k < 4294967296 := fun p hp => by
  have := (ownP_ok h).1 p hp
  exact ⟨this.2.2.2.2.2.2, this.2.2.2.2.2.1⟩
end Go.Proofs.YtmmflekajbeamabGreatDoor

namespace Go.Proofs.YtmmflekajbeamabGreatDoor
open Go.RowKit

theorem lst_get (s : ByteArray) (i : Nat) : (lst s).getD i 0 = s.get! i := by
  rw [← bya_get, bya_lst]
theorem frN_be (s : ByteArray) : frN (lst s) = beN s 2 2 := by
  unfold frN
  rw [lst_get, lst_get]
  simp only [beN, Nat.add_zero, Nat.reduceAdd]
  omega
theorem lst_ext (s : ByteArray) (a b : Nat) : lst (s.extract a b) = ((lst s).drop a).take (b - a) := by
  unfold lst
  rw [ByteArray.data_extract, Array.toList_extract, List.extract_eq_take_drop]
theorem lst_inj {s t : ByteArray} : lst s = lst t ↔ s = t := ⟨fun h => by rw [← bya_lst s, h, bya_lst], fun h => by rw [h]⟩
theorem str_ne {s t : ByteArray} (h : ¬ s = t) : (s.toList == t.toList) = false := by
  rw [beq_eq_false_iff_ne]
  intro e
  rw [ByteArray.toList_eq, ByteArray.toList_eq] at e
  exact h (lst_inj.1 e)
/-- The first frame of a text, by its parts. -/
theorem frst_eq (s : ByteArray) (h8 : 8 ≤ s.size) (hn : beN s 2 2 + 8 ≤ s.size) :
    ((sealOK (bt s 1 : Nat) (s.extract 4 (4 + beN s 2 2)) ∧ s.extract 0 (8 + beN s 2 2) = bya (frT (bt s 1) (lst (s.extract 4 (4 + beN s 2 2))))) → frst (lst s) = some (bt s 1, lst (s.extract 4 (4 + beN s 2 2)))) ∧ (¬ (sealOK (bt s 1 : Nat) (s.extract 4 (4 + beN s 2 2)) ∧ s.extract 0 (8 + beN s 2 2) = bya (frT (bt s 1) (lst (s.extract 4 (4 + beN s 2 2))))) → frst (lst s) = none) := by
  have e1 : ((lst s).getD 1 0).toNat = bt s 1 := by rw [lst_get]; rfl
  have e4 : lst (s.extract 4 (4 + beN s 2 2)) = ((lst s).drop 4).take (beN s 2 2) := by rw [lst_ext, show 4 + beN s 2 2 - 4 = beN s 2 2 by omega]
  have e0 : lst (s.extract 0 (8 + beN s 2 2)) = (lst s).take (beN s 2 2 + 8) := by rw [lst_ext, List.drop_zero, show 8 + beN s 2 2 - 0 = beN s 2 2 + 8 by omega]
  have ez : (s.extract 4 (4 + beN s 2 2)).size = beN s 2 2 := by rw [ByteArray.size_extract]; omega
  unfold frst
  rw [if_neg (by rw [lst_len]; omega), frN_be, if_neg (by rw [lst_len]; omega), e1, ← e4, ← e0]
  unfold sealOK
  rw [ez]
  have hiff : (1 ≤ bt s 1 ∧ bt s 1 ≤ 3 ∧ beN s 2 2 ≤ 200 ∧ lst (s.extract 0 (8 + beN s 2 2)) = frT (bt s 1) (lst (s.extract 4 (4 + beN s 2 2)))) ↔ ((1 ≤ ((bt s 1 : Nat) : Int) ∧ ((bt s 1 : Nat) : Int) ≤ 3 ∧ beN s 2 2 ≤ 200) ∧ s.extract 0 (8 + beN s 2 2) = bya (frT (bt s 1) (lst (s.extract 4 (4 + beN s 2 2))))) := by
    rw [← lst_inj, lst_bya]
    constructor
    · rintro ⟨a, b, c, d⟩
      exact ⟨⟨by omega, by omega, c⟩, d⟩
    · rintro ⟨⟨a, b, c⟩, d⟩
      exact ⟨by omega, by omega, c, d⟩
  exact ⟨fun h => by rw [if_pos (hiff.2 h)], fun h => by rw [if_neg (fun hc => h (hiff.1 hc))]⟩
theorem frst_short (s : ByteArray) (h : s.size < 8 ∨ s.size < beN s 2 2 + 8) : frst (lst s) = none := by
  unfold frst
  by_cases h8 : s.size < 8
  · rw [if_pos (by rw [lst_len]; exact h8)]
  · rw [if_neg (by rw [lst_len]; exact h8), frN_be, if_pos (by rw [lst_len]; omega)]
end Go.Proofs.YtmmflekajbeamabGreatDoor

namespace Go.Proofs.YtmmflekajbeamabGreatDoor
open Go.RowKit

def preS (s t : ByteArray) : Bool := decide (t.size ≤ s.size) && ((s.extract 0 t.size).toList == t.toList)
theorem preS_true {s t : ByteArray} : preS s t = true ↔ t.size ≤ s.size ∧ s.extract 0 t.size = t := by
  unfold preS
  rw [Bool.and_eq_true, decide_eq_true_eq, beq_iff_eq, ByteArray.toList_eq, ByteArray.toList_eq]
  exact ⟨fun h => ⟨h.1, lst_inj.1 h.2⟩, fun h => ⟨h.1, by rw [h.2]⟩⟩
set_option maxRecDepth 100000 in
set_option maxHeartbeats 1000000 in
theorem hasPre_any (s t : ByteArray) (w : World) :
    Calls Tryz.prog 219 #[.string s, .string t] w fun e' w' => e' = .returned (.bool (preS s t)) ∧ w' = w := by
  by_cases h : t.size ≤ s.size
  · have HP : Hid (((s.extract 0 t.size).toList == t.toList) = preS s t) := by unfold Hid preS; rw [decide_eq_true h, Bool.true_and]
    go_enter Tryz.func219, Tryz.ntmps219
    go_wp2
    go_ret
    exact ⟨ret_bool HP.out, rfl⟩
  · have HP : Hid (false = preS s t) := by unfold Hid preS; rw [decide_eq_false h, Bool.false_and]
    go_enter Tryz.func219, Tryz.ntmps219
    go_wp2
    go_ret
    exact ⟨ret_bool HP.out, rfl⟩
theorem ext_pay (s : ByteArray) (n : Nat) (h : 4 + n ≤ s.size) : (s.extract 4 s.size).extract 0 n = s.extract 4 (4 + n) := by
  rw [← lst_inj, lst_ext, lst_ext, lst_ext, List.drop_zero, Nat.sub_zero, List.take_take, Nat.min_eq_left (by omega), show 4 + n - 4 = n by omega]
/-- What the program's first frame is. -/
def frV (k : Int) (p : ByteArray) (n : Int) : Array Value := #[.int .i64 k, .string p, .int .i64 n]
def FstF (s : ByteArray) (e' : Ending) : Prop :=
  (frst (lst s) = none ∧ e' = .returned (.tuple #[.agg (frV 0 (bya []) 0), .bool false])) ∨ ∃ (K : Nat) (q : List UInt8), frst (lst s) = some (K, q) ∧ e' = .returned (.tuple #[.agg (frV K (bya q) ((q.length + 8 : Nat) : Int)), .bool true])
theorem frV_one (k : Int) (p : ByteArray) (n : Int) : (frV k p n).all (·.oneCell') = true := by simp [frV, Value.oneCell']
theorem wpList_storeF {ops : Array Oper} {rest : List Oper} {o : Oper} {a : Act} {w : World} {Q : Exit → Act → World → Prop} (hgd : o.guard = none) (x y : Operand) (ho : o.op = .store 240 x y)
    (g : Nat) (k : Int) (p : ByteArray) (n : Int) (hx : a.eval x = .pointer (some ⟨g, 0, none⟩)) (hy : a.eval y = .agg (frV k p n)) (old : Array Value) (hg : w.heap[g]? = some (.cells old 240 (0, 0))) (hold : old.size = 3)
    (h : wpList Tryz.prog ops Q rest (a.put o.dst undef) (w.setRow g (frV k p n))) : wpList Tryz.prog ops Q (o :: rest) a w :=
  wpList_store_row hgd 240 x y ho g (frV k p n) hx hy 240 old hg (show (Tryz.prog.info? 240).map (·.size) = some 3 by kernel_rfl) hold (frV_one k p n) h
theorem size149 : (Tryz.prog.info? 240).map (·.size) = some 3 := by kernel_rfl
theorem build149 (w : World) : (Instr.build 240 #[]).run Tryz.prog w = .ok (.agg (frV 0 (bya []) 0)) w := by kernel_rfl
theorem zero149 (w : World) : (zeroValue 240).run Tryz.prog w = .ok (.agg (frV 0 (bya []) 0)) w := by kernel_rfl
theorem res_F {fn : Func} {p u : Tmp} (h : fn.results = #[.cell p 240, .tmp u]) (tmps : Array Value) (w : World) (g : Nat) (c : Array Value) (hz : c.size = 3)
    (hp : tmps.getD p undef = .pointer (some ⟨g, 0, none⟩)) (hg : w.heap[g]? = some (.cells c 240 (0, 0))) (x : Value) (hu : tmps.getD u undef = x) :
    (results fn tmps).run Tryz.prog w = .ok (.tuple #[.agg c, x]) w := by
  rw [results_cell_tmp h, hp, hu]
  simp only [asAddr, Sem.run_pure, Result.andThen]
  rw [run_loadVar_row w g 240 240 c (0, 0) _ hg Tryz.underlying240 rfl (by rw [size149, hz])]

set_option maxRecDepth 100000 in
set_option maxHeartbeats 4000000 in
theorem frFirst_any (s : ByteArray) (w : World) (hs : s.size ≤ 4611686018427387904) :
    Calls Tryz.prog 182 #[.string s] w fun e' w' => Below w.heap.size w w' ∧ FstF s e' := by
  have bz := build149
  have zz := zero149
  have HW0 : Hid ((w.alloc (.cells (frV 0 (bya []) 0) 240)).heap[w.heap.size]? = some (.cells (frV 0 (bya []) 0) 240 (0, 0))) := _root_.Go.heap_alloc_new w _
  have HB0 := hide ((Below.refl w.heap.size w).alloc (Nat.le_refl _) (.cells (frV 0 (bya []) 0) 240))
  by_cases h4 : s.size < 4
  · have HN := hide (frst_short s (.inl (by omega)))
    have h4' : (s.size : Int) < 4 := by omega
    go_enter Tryz.func182, Tryz.ntmps182
    go_wp2_with (refine wpList_storeF rfl _ _ rfl w.heap.size 0 (bya []) 0 rfl rfl _ HW0.out rfl ?_)
    exact bodyPost_ret (v := .tuple #[.agg (frV 0 (bya []) 0), .bool false]) (res_F Tryz.results182 _ _ w.heap.size _ rfl rfl (setRow_heap _ _ _ _ _ (0, 0) HW0.out) _ rfl) rfl ⟨below_setRow HB0.out (Nat.le_refl _) _, .inl ⟨HN.out, rfl⟩⟩
  have h4' : ¬ (s.size : Int) < 4 := by omega
  have hg1 := bt_get s 1 (by omega)
  have hbl := bt_lt s 1
  have HRd := hide (fun w' => numRead_any (s.extract 2 4) w' (by rw [ByteArray.size_extract]; omega))
  rw [show (s.extract 2 4).size = 2 by rw [ByteArray.size_extract]; omega, show s.extract 2 4 = s.extract 2 (2 + 2) from rfl, extr_beN s 2 2 0 (by omega) 2 (by omega)] at HRd
  have ez : (s.extract 4 s.size).size = s.size - 4 := by rw [ByteArray.size_extract]; omega
  have hb : beN s 2 2 < 65536 := beN_lt s 2 2
  have hNm : (s.extract 4 s.size).size < beN s 2 2 → frst (lst s) = none := fun h => frst_short s (by omega)
  have e0 : (beN s 2 2 : Int) ≤ (s.size : Int) - 4 ∨ (s.size : Int) - 4 < (beN s 2 2 : Int) := by omega
  by_cases hgt : s.size - 4 < beN s 2 2
  · have HN := hide (frst_short s (by omega))
    have hgt' : (((s.extract 4 s.size).size : Nat) : Int) < (beN s 2 2 : Int) := by omega
    clear hNm e0
    generalize beN s 2 2 = n at *
    generalize bt s 1 = K at *
    go_enter Tryz.func182, Tryz.ntmps182
    go_upto_region 3 with fail
    go_quiet (fail)
    have HB1 := hide (below_drewN HB0.out nq)
    have HW1 : Hid (((w.alloc (.cells (frV 0 (bya []) 0) 240)).drewN nq).heap[w.heap.size]? = some (.cells (frV 0 (bya []) 0) 240 (0, 0))) := HW0.out
    generalize (w.alloc (.cells (frV 0 (bya []) 0) 240)).drewN nq = w1 at *
    go_wp2_with fail
    refine (unhide HRd _).mono ?_
    rintro e w' ⟨rfl, hw⟩
    obtain rfl := hw.symm
    go_wp2_with (refine wpList_storeF rfl _ _ rfl w.heap.size 0 (bya []) 0 rfl rfl _ HW1.out rfl ?_)
    exact bodyPost_ret (v := .tuple #[.agg (frV 0 (bya []) 0), .bool false]) (res_F Tryz.results182 _ _ w.heap.size _ rfl rfl (setRow_heap _ _ _ _ _ (0, 0) HW1.out) _ rfl) rfl ⟨below_setRow HB1.out (Nat.le_refl _) _, .inl ⟨HN.out, rfl⟩⟩
  have hle' : ¬ (((s.extract 4 s.size).size : Nat) : Int) < (beN s 2 2 : Int) := by omega
  have hle2 : (beN s 2 2 : Int) ≤ (((s.extract 4 s.size).size : Nat) : Int) := by omega
  have hpay := ext_pay s (beN s 2 2) (by omega)
  have HSl := hide (fun w' => frSeal_any (bt s 1 : Nat) (s.extract 4 (4 + beN s 2 2)) w')
  have HPy := hide hpay
  have hpz : (s.extract 4 (4 + beN s 2 2)).size = beN s 2 2 := by rw [ByteArray.size_extract]; omega
  -- the frame, if there is one
  have HY : Hid (sealOK (bt s 1 : Nat) (s.extract 4 (4 + beN s 2 2)) → preS s (bya (frT (bt s 1) (lst (s.extract 4 (4 + beN s 2 2))))) = true → frst (lst s) = some (bt s 1, lst (s.extract 4 (4 + beN s 2 2)))) := fun hok hp => by
    obtain ⟨h1, h2⟩ := preS_true.1 hp
    have hz : (bya (frT (bt s 1) (lst (s.extract 4 (4 + beN s 2 2))))).size = beN s 2 2 + 8 := by rw [bya_size, frT_len, lst_len, hpz]
    rw [hz] at h1 h2
    refine (frst_eq s (by omega) (by omega)).1 ⟨hok, ?_⟩
    rw [Nat.add_comm 8 (beN s 2 2)]
    exact h2
  have HNo : Hid ((¬ sealOK (bt s 1 : Nat) (s.extract 4 (4 + beN s 2 2)) ∨ preS s (bya (frT (bt s 1) (lst (s.extract 4 (4 + beN s 2 2))))) = false) → frst (lst s) = none) := fun h => by
    by_cases h8 : beN s 2 2 + 8 ≤ s.size
    · refine (frst_eq s (by omega) h8).2 (fun hh => ?_)
      rcases h with h | h
      · exact h hh.1
      · have hz : (bya (frT (bt s 1) (lst (s.extract 4 (4 + beN s 2 2))))).size = beN s 2 2 + 8 := by rw [bya_size, frT_len, lst_len, hpz]
        have : preS s (bya (frT (bt s 1) (lst (s.extract 4 (4 + beN s 2 2))))) = true := preS_true.2 ⟨by rw [hz]; exact h8, by rw [hz, Nat.add_comm (beN s 2 2) 8]; exact hh.2⟩
        rw [this] at h
        cases h
    · exact frst_short s (.inr (by omega))
  have HPz := hide hpz
  have HPr := hide (fun t w' => hasPre_any s t w')
  clear hNm e0 hpay hpz
  generalize beN s 2 2 = n at *
  generalize bt s 1 = K at *
  go_enter Tryz.func182, Tryz.ntmps182
  go_upto_region 3 with fail
  go_quiet (fail)
  have HB1 := hide (below_drewN HB0.out nq)
  have HW1 : Hid (((w.alloc (.cells (frV 0 (bya []) 0) 240)).drewN nq).heap[w.heap.size]? = some (.cells (frV 0 (bya []) 0) 240 (0, 0))) := HW0.out
  generalize (w.alloc (.cells (frV 0 (bya []) 0) 240)).drewN nq = w1 at *
  go_wp2_with fail
  refine (unhide HRd _).mono ?_
  rintro e w' ⟨rfl, hw⟩
  obtain rfl := hw.symm
  go_wp2_with fail
  rw [HPy.out]
  refine (unhide HSl _).mono ?_
  rintro e w2 ⟨hb2, ⟨hok, rfl⟩ | ⟨hno, rfl⟩⟩
  · have HB2 : Hid (Below w.heap.size w w2) := HB1.out.trans (hb2.mono (by have := HB1.out.size; omega))
    have HW2 : Hid (w2.heap[w.heap.size]? = some (.cells (frV 0 (bya []) 0) 240 (0, 0))) := (hb2.block _ (Array.getElem?_eq_some_iff.1 HW1.out).1).trans HW1.out
    have HOk := hide hok
    rw [Int.toNat_natCast]
    have HDs : Hid ((bya (frT K (lst (s.extract 4 (4 + n))))).size = (lst (s.extract 4 (4 + n))).length + 8) := by unfold Hid; rw [bya_size, frT_len]
    have HP := hide (HPr.out (bya (frT K (lst (s.extract 4 (4 + n))))))
    have HPb : Hid (bya (lst (s.extract 4 (4 + n))) = s.extract 4 (4 + n)) := bya_lst _
    cases hp : preS s (bya (frT K (lst (s.extract 4 (4 + n)))))
    · rw [hp] at HP
      have HN := hide (HNo.out (.inr hp))
      clear hp hb2 hok HSl HY HNo
      generalize bya (frT K (lst (s.extract 4 (4 + n)))) = D at *
      go_wp2_with fail
      refine (unhide HP _).mono ?_
      rintro e w' ⟨rfl, hw⟩
      obtain rfl := hw.symm
      go_wp2_with (refine wpList_storeF rfl _ _ rfl w.heap.size 0 (bya []) 0 rfl rfl _ HW2.out rfl ?_)
      exact bodyPost_ret (v := .tuple #[.agg (frV 0 (bya []) 0), .bool false]) (res_F Tryz.results182 _ _ w.heap.size _ rfl rfl (setRow_heap _ _ _ _ _ (0, 0) HW2.out) _ rfl) rfl ⟨below_setRow HB2.out (Nat.le_refl _) _, .inl ⟨HN.out, rfl⟩⟩
    · rw [hp] at HP
      have HN := hide (HY.out HOk.out hp)
      clear hp hb2 hok HSl HY HNo
      generalize bya (frT K (lst (s.extract 4 (4 + n)))) = D at *
      go_wp2_with fail
      refine (unhide HP _).mono ?_
      rintro e w' ⟨rfl, hw⟩
      obtain rfl := hw.symm
      go_wp2_with (refine wpList_storeF rfl _ _ rfl w.heap.size K (s.extract 4 (4 + n)) (D.size : Int) rfl rfl _ HW2.out rfl ?_)
      refine bodyPost_ret (v := .tuple #[.agg (frV K (s.extract 4 (4 + n)) (D.size : Int)), .bool true]) (res_F Tryz.results182 _ _ w.heap.size _ rfl rfl (setRow_heap _ _ _ _ _ (0, 0) HW2.out) _ rfl) rfl ⟨below_setRow HB2.out (Nat.le_refl _) _, .inr ⟨_, _, HN.out, ?_⟩⟩
      rw [HPb.out, HDs.out]
  · have HB2 : Hid (Below w.heap.size w w2) := HB1.out.trans (hb2.mono (by have := HB1.out.size; omega))
    have HW2 : Hid (w2.heap[w.heap.size]? = some (.cells (frV 0 (bya []) 0) 240 (0, 0))) := (hb2.block _ (Array.getElem?_eq_some_iff.1 HW1.out).1).trans HW1.out
    have HN := hide (HNo.out (.inl hno))
    clear hb2 hno HSl HY HNo
    go_wp2_with (refine wpList_storeF rfl _ _ rfl w.heap.size 0 (bya []) 0 rfl rfl _ HW2.out rfl ?_)
    exact bodyPost_ret (v := .tuple #[.agg (frV 0 (bya []) 0), .bool false]) (res_F Tryz.results182 _ _ w.heap.size _ rfl rfl (setRow_heap _ _ _ _ _ (0, 0) HW2.out) _ rfl) rfl ⟨below_setRow HB2.out (Nat.le_refl _) _, .inl ⟨HN.out, rfl⟩⟩
end Go.Proofs.YtmmflekajbeamabGreatDoor

namespace Go.Proofs.YtmmflekajbeamabGreatDoor
open Go.RowKit

def knCs (l : List (List UInt8 × List UInt8)) : List Value := l.flatMap fun x => [.string (bya x.1), .string (bya x.2)]
theorem knCs_snoc (l : List (List UInt8 × List UInt8)) (x : List UInt8 × List UInt8) : knCs (l ++ [x]) = knCs l ++ [.string (bya x.1), .string (bya x.2)] := by simp [knCs]
def arV (gen : Nat) (whole : Bool) (good : Nat) (v : Value) : Array Value := #[.int .i64 (gen : Int), .bool whole, .int .i64 (good : Int), v]
/-- An area as it lies in memory. -/
structure ArAt (A : Nat) (a : ArN) (v : Value) (w : World) : Prop where
  cells : w.heap[A]? = some (.cells (arV a.gen a.whole a.good v) 184 (0, 0))
  list : w.ownsRow (A + 1) 71 2 v a.list.length (knCs a.list)
/-- What a call keeps that turns an area. -/
def TkFr (A : Nat) (v : Value) (w w' : World) : Prop := Below A w w' ∧ ∀ g, g < w.heap.size → g ≠ A → v.ownBlock ≠ some g → w'.heap[g]? = w.heap[g]?
theorem ArAt.lt {A : Nat} {a : ArN} {v : Value} {w : World} (h : ArAt A a v w) : A < w.heap.size := (Array.getElem?_eq_some_iff.1 h.cells).1
theorem ArAt.cell {A : Nat} {a : ArN} {v : Value} {w : World} (h : ArAt A a v w) (i : Nat) : w.cell? ⟨A, i, none⟩ = (arV a.gen a.whole a.good v)[i]? := cell_row h.cells i
theorem ArAt.frozen {A : Nat} {a : ArN} {v : Value} {w : World} (h : ArAt A a v w) (i : Nat) : w.frozen? ⟨A, i, none⟩ = false := by simp [World.frozen?, h.cells]
theorem ArAt.own {A : Nat} {a : ArN} {v : Value} {w : World} (h : ArAt A a v w) : v.ownBlock ≠ some A := fun e => by
  have := (row_lt h.list A e).1
  omega
theorem ArAt.above {A : Nat} {a : ArN} {v : Value} {w w' : World} (h : ArAt A a v w) (hb : Below w.heap.size w w') : ArAt A a v w' :=
  ⟨(hb.block _ h.lt).trans h.cells, own_grow h.list hb⟩
theorem TkFr.of_above {A : Nat} {v : Value} {w w' : World} (hA : A < w.heap.size) (hb : Below w.heap.size w w') : TkFr A v w w' :=
  ⟨hb.mono (Nat.le_of_lt hA), fun g hg _ _ => hb.block g hg⟩
/-- A cell of the area that is not its list is turned. -/
theorem ArAt.turn {A : Nat} {a a' : ArN} {v : Value} {w : World} (h : ArAt A a v w) (i : Nat) (x : Value) (hl : a'.list = a.list) (hx : (arV a.gen a.whole a.good v).setIfInBounds i x = arV a'.gen a'.whole a'.good v) : ArAt A a' v (w.setCell ⟨A, i, none⟩ x) := by
  refine ⟨?_, ?_⟩
  · obtain ⟨hlt, hk⟩ := Array.getElem?_eq_some_iff.1 h.cells
    show (w.heap.modify A _)[A]? = _
    rw [Array.getElem?_eq_getElem (by rw [Array.size_modify]; exact hlt), Array.getElem_modify_self, hk, ← hx]
    rfl
  · rw [hl]
    refine ownsRow_keep h.list (fun g hg => heap_set_other _ _ (fun e => ?_))
    subst e
    exact h.own hg
theorem TkFr.turn {A : Nat} {v : Value} {w w' : World} (h : TkFr A v w w') (i : Nat) (x : Value) : TkFr A v w (w'.setCell ⟨A, i, none⟩ x) :=
  ⟨h.1.setCell (p := ⟨A, i, none⟩) (Nat.le_refl _) _, fun g hg hn ho => (heap_set_other _ _ hn).trans (h.2 g hg hn ho)⟩

theorem TkFr.refl (A : Nat) (v : Value) (w : World) : TkFr A v w w := ⟨Below.refl _ _, fun _ _ _ _ => rfl⟩
theorem TkFr.alloc {A : Nat} {v : Value} {w w' : World} (h : TkFr A v w w') (hA : A < w.heap.size) (o : Obj) : TkFr A v w (w'.alloc o) :=
  ⟨h.1.alloc (by have := h.1.size; omega) o, fun g hg hn ho => (Below.heap_alloc w' _ _ (by have := h.1.size; omega)).trans (h.2 g hg hn ho)⟩
theorem ArAt.alloc {A : Nat} {a : ArN} {v : Value} {w : World} (h : ArAt A a v w) (o : Obj) : ArAt A a v (w.alloc o) := h.above ((Below.refl _ _).alloc (Nat.le_refl _) o)
/-- What taking a frame leaves: the area's good bytes are not counted yet. -/
def TkPost (A : Nat) (a : ArN) (v : Value) (r : Option ArN) (w : World) (e' : Ending) (w' : World) : Prop :=
  TkFr A v w w' ∧ ((∃ a' v', r = some a' ∧ e' = .returned (.bool true) ∧ ArAt A ⟨a'.gen, a'.whole, a.good, a'.list⟩ v' w' ∧ (∀ g, v'.ownBlock = some g → v.ownBlock = some g ∨ w.heap.size ≤ g)) ∨ (r = none ∧ e' = .returned (.bool false) ∧ ArAt A a v w'))
def rOpen (a : ArN) (K : Nat) (q : List UInt8) : Option ArN := if K = 1 ∧ q.length = 4 ∧ beN (bya q) 0 4 ≠ 0 then some ⟨beN (bya q) 0 4, a.whole, a.good + (q.length + 8), a.list⟩ else none
def rWhole (a : ArN) (q : List UInt8) : Option ArN := if a.whole = false ∧ q = [] then some ⟨a.gen, true, a.good + (q.length + 8), a.list⟩ else none

set_option maxRecDepth 100000 in
set_option maxHeartbeats 2000000 in
/-- An Open frame at the beginning of an area. -/
theorem takeOpen_any (A : Nat) (a : ArN) (v : Value) (K : Nat) (q : List UInt8) (n : Int) (w : World) (h : ArAt A a v w) (hg : a.gen = 0) :
    Calls Tryz.prog 220 #[.pointer (some ⟨A, 0, none⟩), .agg #[.int .i64 (K : Int), .string (bya q), .int .i64 n]] w (TkPost A a v (rOpen a K q) w) := by
  have HZ : Hid ((bya q).size = q.length) := bya_size q
  have hA := h.lt
  have hne : ¬ A = w.heap.size := by omega
  have g0 : w.cell? ⟨A, 0, none⟩ = some (.int .i64 (a.gen : Int)) := h.cell 0
  have f0 := h.frozen 0
  have HNo : Hid (∀ o, rOpen a K q = none → TkPost A a v (rOpen a K q) w (.returned (.bool false)) (w.alloc o)) := fun o hr => ⟨(TkFr.refl A v w).alloc hA o, .inr ⟨hr, rfl, h.alloc o⟩⟩
  have HZero : Hid (∀ o, rOpen a K q = none → TkPost A a v (rOpen a K q) w (.returned (.bool false)) ((w.setCell ⟨A, 0, none⟩ (.int .i64 0)).alloc o)) := fun o hr => by
    refine ⟨((TkFr.refl A v w).turn 0 _).alloc hA o, .inr ⟨hr, rfl, ?_⟩⟩
    refine (h.turn (a' := a) 0 (.int .i64 0) rfl ?_).alloc o
    rw [hg]
    rfl
  have HYes : Hid (∀ o, (K = 1 ∧ q.length = 4 ∧ beN (bya q) 0 4 ≠ 0) → TkPost A a v (rOpen a K q) w (.returned (.bool true)) ((w.setCell ⟨A, 0, none⟩ (.int .i64 (beN (bya q) 0 4 : Int))).alloc o)) := fun o hr =>
    ⟨((TkFr.refl A v w).turn 0 _).alloc hA o, .inl ⟨_, v, if_pos hr, rfl, (h.turn (a' := ⟨beN (bya q) 0 4, a.whole, a.good, a.list⟩) 0 _ rfl rfl).alloc o, fun g hg => .inl hg⟩⟩
  have HR : Hid (¬ (K = 1 ∧ q.length = 4 ∧ beN (bya q) 0 4 ≠ 0) → rOpen a K q = none) := fun hc => if_neg hc
  clear h
  generalize rOpen a K q = R at *
  generalize bya q = D at *
  by_cases hc : K = 1 ∧ q.length = 4
  · obtain ⟨rfl, hl⟩ := hc
    have hz' : (D.size : Int) = 4 := by have := HZ.out; omega
    have HRd := hide (fun w' => numRead_any D w' (by omega))
    rw [show D.size = 4 by omega] at HRd
    have HL := hide hl
    clear hl
    have hbl : beN D 0 4 < 4294967296 := beN_lt D 0 4
    generalize beN D 0 4 = X at *
    by_cases hx0 : X = 0
    · subst hx0
      have HN := hide (HR.out (fun hh => hh.2.2 rfl))
      go_enter Tryz.func220, Tryz.ntmps220
      go_wp2_with fail
      refine (unhide HRd _).mono ?_
      rintro e w' ⟨rfl, hw⟩
      obtain rfl := hw.symm
      go_wp2_with fail
      go_ret
      exact HZero.out _ HN.out
    · have hx1 : (0 : Int) < (X : Int) := by omega
      have hx2 : decide (0 < X) = true := by rw [decide_eq_true_eq]; omega
      have HY := hide (fun o => HYes.out o ⟨rfl, HL.out, hx0⟩)
      go_enter Tryz.func220, Tryz.ntmps220
      go_wp2_with fail
      refine (unhide HRd _).mono ?_
      rintro e w' ⟨rfl, hw⟩
      obtain rfl := hw.symm
      go_wp2_with fail
      go_ret
      exact HY.out _
  · have HN := hide (HR.out (fun hh => hc ⟨hh.1, hh.2.1⟩))
    by_cases hk : K = 1
    · subst hk
      have hz' : ((D.size : Int) == 4) = false := by have := HZ.out; rw [beq_eq_false_iff_ne]; intro e; exact hc ⟨rfl, by omega⟩
      clear hc
      go_enter Tryz.func220, Tryz.ntmps220
      go_wp2_with fail
      go_ret
      exact HNo.out _ HN.out
    · have hk' : ((K : Int) == 1) = false := by rw [beq_eq_false_iff_ne]; omega
      clear hc
      go_enter Tryz.func220, Tryz.ntmps220
      go_wp2_with fail
      go_ret
      exact HNo.out _ HN.out

theorem bya_ne {q : List UInt8} (h : q ≠ []) : ((bya q).toList == ([] : List UInt8)) = false := by
  rw [beq_eq_false_iff_ne, ByteArray.toList_eq]
  intro e
  apply h
  rw [← bya_list q]
  exact e
set_option maxRecDepth 100000 in
set_option maxHeartbeats 2000000 in
/-- A Whole frame. -/
theorem takeWhole_any (A : Nat) (a : ArN) (v : Value) (K : Nat) (q : List UInt8) (n : Int) (w : World) (h : ArAt A a v w) :
    Calls Tryz.prog 222 #[.pointer (some ⟨A, 0, none⟩), .agg #[.int .i64 (K : Int), .string (bya q), .int .i64 n]] w (TkPost A a v (rWhole a q) w) := by
  have hA := h.lt
  have hne : ¬ A = w.heap.size := by omega
  have g1 : w.cell? ⟨A, 1, none⟩ = some (.bool a.whole) := h.cell 1
  have f1 := h.frozen 1
  have HNo : Hid (∀ o, rWhole a q = none → TkPost A a v (rWhole a q) w (.returned (.bool false)) (w.alloc o)) := fun o hr => ⟨(TkFr.refl A v w).alloc hA o, .inr ⟨hr, rfl, h.alloc o⟩⟩
  have HYes : Hid (∀ o, (a.whole = false ∧ q = []) → TkPost A a v (rWhole a q) w (.returned (.bool true)) ((w.setCell ⟨A, 1, none⟩ (.bool true)).alloc o)) := fun o hr =>
    ⟨((TkFr.refl A v w).turn 1 _).alloc hA o, .inl ⟨_, v, if_pos hr, rfl, (h.turn (a' := ⟨a.gen, true, a.good, a.list⟩) 1 _ rfl rfl).alloc o, fun g hg => .inl hg⟩⟩
  have HR : Hid (¬ (a.whole = false ∧ q = []) → rWhole a q = none) := fun hc => if_neg hc
  clear h
  generalize rWhole a q = R at *
  cases hwh : a.whole
  · rw [hwh] at g1
    by_cases hq : q = []
    · have HY := hide (fun o => HYes.out o ⟨hwh, hq⟩)
      subst hq
      have hqb : ((bya []).toList == ([] : List UInt8)) = true := by rw [ByteArray.toList_eq, bya_list]; rfl
      go_enter Tryz.func222, Tryz.ntmps222
      go_wp2_with fail
      go_ret
      exact HY.out _
    · have hqb := bya_ne hq
      have HN := hide (HR.out (fun hh => hq hh.2))
      clear hq
      go_enter Tryz.func222, Tryz.ntmps222
      go_wp2_with fail
      go_ret
      exact HNo.out _ HN.out
  · rw [hwh] at g1
    have HN := hide (HR.out (fun hh => by rw [hwh] at hh; cases hh.1))
    go_enter Tryz.func222, Tryz.ntmps222
    go_wp2_with fail
    go_ret
    exact HNo.out _ HN.out
end Go.Proofs.YtmmflekajbeamabGreatDoor
