/-
  Translates: slices.Backward over puts: what its value hands out.
  Translates: puts with what is known laid in (translator.withKnown).
-/
import Derived.Test.YtmmflekajbeamaaDoorT18
import Derived.RangeFuncNested
import Derived.RangeFuncBound
import Derived.RangeFuncCalls
import Derived.RangeFuncLeaves
import Derived.Shelf.Abstract
import Derived.Shelf.RegionOpen
import Derived.WalkKit
import Derived.OwnWalkIn
import Derived.TacticsInMore
import Derived.LoopNIn
import Derived.LoopIn
import Derived.Test.YtmmflekajbeamaaDoorT04
import Derived.Deep.CutRange
namespace Go.Proofs.YtmmflekajbeamaaDoor
open Go.RowKit Go.Shelf
attribute [local go_sem] Oper.semAt_some

def dPut : PutN := ⟨1, 0, 0, 0, 0⟩
theorem dPut_ok : okB dPut := ⟨by decide, by decide, by decide, by decide, by decide, by decide, ⟨by decide, by decide, by decide, .inl ⟨rfl, rfl, rfl⟩⟩⟩
/-- What comes in a round: a place and a put. -/
abbrev BkX := { x : Nat × PutN // okB x.2 }
def okBD (p : PutN) : Decidable (okB p) := by
  have h := okDec p
  unfold okB
  exact inferInstance
def bkF (ps : List PutN) (i : Nat) : BkX := @dite BkX (okB (ps.getD i dPut)) (okBD _) (fun h => ⟨(i, ps.getD i dPut), h⟩) (fun _ => ⟨(i, dPut), dPut_ok⟩)
theorem bkF_eq {ps : List PutN} (hw : ∀ p ∈ ps, okB p) {i : Nat} (hi : i < ps.length) : (bkF ps i).1 = (i, ps[i]) := by
  have e : ps.getD i dPut = ps[i] := by rw [List.getD_eq_getElem?_getD, List.getElem?_eq_getElem hi]; rfl
  have h : okB (ps.getD i dPut) := by rw [e]; exact hw _ (List.getElem_mem _)
  unfold bkF
  rw [dif_pos h]
  show (i, ps.getD i dPut) = _
  rw [e]
/-- What has come when k rounds are over. -/
def bkU (ps : List PutN) (k : Nat) : List BkX := (List.range k).map fun j => bkF ps (ps.length - 1 - j)
theorem bkU_succ (ps : List PutN) (k : Nat) : bkU ps (k + 1) = bkU ps k ++ [bkF ps (ps.length - 1 - k)] := by simp [bkU, List.range_succ]
theorem bkU_len (ps : List PutN) (k : Nat) : (bkU ps k).length = k := by simp [bkU]

/-- What a round keeps: what lay below n₁, and the block Bs. -/
def BKp (n₁ Bs : Nat) (W W' : World) : Prop := Below n₁ W W' ∧ W'.heap[Bs]? = W.heap[Bs]?
theorem BKp.refl (n₁ Bs : Nat) (W : World) : BKp n₁ Bs W W := ⟨Below.refl _ _, rfl⟩
theorem BKp.trans {n₁ Bs : Nat} {A B C : World} (h : BKp n₁ Bs A B) (h' : BKp n₁ Bs B C) : BKp n₁ Bs A C := ⟨h.1.trans h'.1, h'.2.trans h.2⟩
set_option maxRecDepth 100000 in
set_option maxHeartbeats 2000000 in
theorem backward1_in (F : Fence) (n : Nat) (hf : F.fn 160) (hro : F.round = none) (hn : 1 ≤ n) (l Bs n₀ g cap : Nat) (ps : List PutN) (hw : ∀ p ∈ ps, okB p) (hl : ps.length ≤ 8) (hb : g < n₀) (J Jx : List BkX → World → Prop)
    (hY : ∀ pre x W, J pre W → pre.length < ps.length → YieldAt F (n - 1) Tryd.prog l #[.int .i64 (x.1.1 : Int), .agg (putV x.1.2)] W fun e W' =>
      (e = .returned (.bool true) ∧ J (pre ++ [x]) W' ∧ BKp n₀ Bs W W') ∨ (e = .returned (.bool false) ∧ Jx (pre ++ [x]) W'))
    (W : World) (hc0 : W.cell? ⟨Bs, 0, none⟩ = some (.slice (some ⟨g, 0, none⟩) ps.length cap)) (hc : ∀ j p, ps[j]? = some p → W.rangeAt g (j * 5) (putV p).toList) (h0 : J [] W) :
    CallsIn F n Tryd.prog 160 #[.func (.yield l) #[] #[], .pointer (some ⟨Bs, 0, none⟩)] W fun e W' => (∃ v, e = .returned v) ∧
      ((∃ ys, ys = bkU ps ps.length ∧ J ys W') ∨ (∃ pre, (∃ k, k ≤ ps.length ∧ pre = bkU ps k) ∧ Jx pre W')) := by
  refine callsIn_of_wp Tryd.func160 rfl hf ?_ hro
  simp only [Tryd.ntmps160, List.size_toArray, List.length_cons, List.length_nil, Nat.reduceAdd, Nat.reduceSub, Array.replicate_succ, Array.replicate_zero, List.push_toArray, List.append_toArray, List.nil_append, List.cons_append]
  have hl' : (ps.length : Int) ≤ 8 := by omega
  gi_wp2
  gi_loopw [3] (fun i wr => ∃ k : Nat, k ≤ ps.length ∧ i = .int .i64 ((ps.length : Int) - 1 - k) ∧ J (bkU ps k) wr ∧ BKp n₀ Bs W wr)
    (fun i _ => (intOf i + 1).toNat)
  case atStart => exact ⟨0, Nat.zero_le _, by simp, h0, BKp.refl _ _ _⟩
  case round =>
    obtain ⟨k, hk, rfl, hJs, hnx⟩ := hrel
    have hcb := (cell_heap 0 hnx.2).trans hc0
    by_cases hlt : k < ps.length
    · obtain ⟨i, hi⟩ : ∃ i, ps.length - 1 - k = i := ⟨_, rfl⟩
      have hii : (ps.length : Int) - 1 - (k : Int) = (i : Int) := by omega
      have hil : i < ps.length := by omega
      have hil' : (i : Int) < (ps.length : Int) := by omega
      obtain ⟨fn, tmps, assign, body, hy, hR⟩ := hY _ (bkF ps i) wr hJs (by rw [bkU_len]; exact hlt)
      rw [bkF_eq hw hil] at hy
      have hx : ps[i]? = some ps[i] := List.getElem?_eq_getElem hil
      have hcr := hc i ps[i] hx
      have cx : ∀ j v, (putV ps[i]).toList[j]? = some v → wr.cell? ⟨g, i * 5 + j, none⟩ = some v := fun j v hv => (hnx.1.cell (p := ⟨g, i * 5 + j, none⟩) hb).trans (hcr j v hv)
      generalize ps[i] = p at *
      obtain ⟨p0, p1, p2, p3, p4⟩ := p
      have x0 : wr.cell? ⟨g, i * 5, none⟩ = some (.int .i64 (p0 : Int)) := cx 0 _ rfl
      have x1 : wr.cell? ⟨g, i * 5 + 1, none⟩ = some (.int .i64 (p1 : Int)) := cx 1 _ rfl
      have x2 : wr.cell? ⟨g, i * 5 + 1 + 1, none⟩ = some (.int .i64 (p2 : Int)) := cx 2 _ rfl
      have x3 : wr.cell? ⟨g, i * 5 + 1 + 1 + 1, none⟩ = some (.int .i64 (p3 : Int)) := cx 3 _ rfl
      have x4 : wr.cell? ⟨g, i * 5 + 1 + 1 + 1 + 1, none⟩ = some (.int .i64 (p4 : Int)) := cx 4 _ rfl
      simp only [putV] at hy
      rw [hii]
      clear cx hcr hx
      gi_wp2
      refine hR.mono ?_
      rintro e W3 (⟨rfl, hJ3, hk3⟩ | ⟨rfl, hJx3⟩)
      · gi_wp2
        go_roundw
        case rel => exact ⟨k + 1, by omega, by congr 1; omega, by rw [bkU_succ, hi]; exact hJ3, hnx.trans hk3⟩
        case measure => simp [intOf]
      · gi_wp2
        refine bodyPost_ret (results_none rfl _ _ _) rfl ?_
        exact ⟨⟨_, rfl⟩, .inr ⟨_, ⟨k + 1, by omega, by rw [bkU_succ, hi]⟩, hJx3⟩⟩
    · obtain rfl : k = ps.length := by omega
      have hneg : ¬ (0 : Int) ≤ (ps.length : Int) - 1 - (ps.length : Int) := by omega
      gi_wp2
      go_end0
      first
      | exact ⟨⟨_, rfl⟩, .inl ⟨_, rfl, hJs⟩⟩
      | exact ⟨⟨_, rfl⟩, .inl hJs⟩
set_option maxRecDepth 100000 in
set_option maxHeartbeats 2000000 in
theorem backward1_nil (F : Fence) (n : Nat) (hf : F.fn 160) (hro : F.round = none) (l Bs : Nat) (a : Option Addr) (cap : Nat) (J : List BkX → World → Prop) (W : World) (hc0 : W.cell? ⟨Bs, 0, none⟩ = some (.slice a 0 cap)) (h0 : J [] W) :
    CallsIn F n Tryd.prog 160 #[.func (.yield l) #[] #[], .pointer (some ⟨Bs, 0, none⟩)] W fun e W' => (∃ v, e = .returned v) ∧ J [] W' := by
  refine callsIn_of_wp Tryd.func160 rfl hf ?_ hro
  simp only [Tryd.ntmps160, List.size_toArray, List.length_cons, List.length_nil, Nat.reduceAdd, Nat.reduceSub, Array.replicate_succ, Array.replicate_zero, List.push_toArray, List.append_toArray, List.nil_append, List.cons_append]
  gi_wp2
  gi_loopw [3] (fun i wr => i = .int .i64 (-1) ∧ J [] wr) (fun _ _ => 0)
  case atStart => exact ⟨rfl, h0⟩
  case round =>
    obtain ⟨rfl, hJs⟩ := hrel
    gi_wp2
    go_end0
    exact ⟨⟨_, rfl⟩, hJs⟩
set_option maxHeartbeats 1000000 in
/-- slices.Backward itself: the slice is boxed; the value captures the box. -/
theorem backward_in (F : Fence) (n : Nat) (hf : F.fn 135) (hro : F.round = none) (a : Option Addr) (len cap : Nat) (w : World) :
    CallsIn F n Tryd.prog 135 #[.slice a len cap] w fun e w' => e = .returned (.func (.func 160) #[] #[.pointer (some ⟨w.heap.size, 0, none⟩)]) ∧ w' = w.alloc (.cells #[.slice a len cap] 61) := by
  refine callsIn_of_wp Tryd.func135 rfl hf ?_ hro
  simp only [Tryd.ntmps135, List.size_toArray, List.length_cons, List.length_nil, Nat.reduceAdd, Nat.reduceSub, Array.replicate_succ, Array.replicate_zero, List.push_toArray, List.append_toArray, List.nil_append, List.cons_append]
  gi_wp2
  go_ret
  exact ⟨rfl, rfl⟩
theorem row_range {w : World} {B g cap : Nat} {ps : List PutN} (h : w.ownsRow B 59 5 (.slice (some ⟨g, 0, none⟩) ps.length cap) ps.length (putCs ps)) (j : Nat) (p : PutN) (hj : ps[j]? = some p) : w.rangeAt g (j * 5) (putV p).toList := by
  intro i v hv
  have hlt : j < ps.length := (List.getElem?_eq_some_iff.1 hj).1
  have hi : i < 5 := (List.getElem?_eq_some_iff.1 hv).1
  rw [h.cellAt _ (by omega)]
  have := flat_at (fun p => (putV p).toList) 5 (fun _ => rfl) ps j p hj i hi
  unfold putCs
  rw [this]
  exact hv
/-- What slices.Backward hands back hands out all puts, the last first; or some of them. -/
theorem backward_stops (F : Fence) (n : Nat) (hf : F.fn 160) (hro : F.round = none) (hn : 1 ≤ n) (B Bs n₀ : Nat) (sv : Value) (ps : List PutN) (hw : ∀ p ∈ ps, okB p) (hl : ps.length ≤ 8) (w : World) (hBs : Bs < w.heap.size)
    (hc : w.cell? ⟨Bs, 0, none⟩ = some sv) (hI : w.ownsRow B 59 5 sv ps.length (putCs ps)) (hsv : ∀ g, sv.ownBlock = some g → g < n₀) :
    SeqStopsK F n Tryd.prog 160 #[.pointer (some ⟨Bs, 0, none⟩)] (fun x : BkX => #[Value.int .i64 (x.1.1 : Int), .agg (putV x.1.2)]) (BKp n₀ Bs) (fun ys => ys = bkU ps ps.length) (fun _ => True) ps.length w := fun l J Jx W hW _ _ hY h0 => by
  have hc' := (hW.cell (p := ⟨Bs, 0, none⟩) hBs).trans hc
  by_cases hz : ps.length = 0
  · obtain rfl : ps = [] := List.length_eq_zero_iff.1 hz
    obtain ⟨a, c, rfl⟩ := owns_len hI
    exact (backward1_nil F n hf hro l Bs a c J W hc' h0).mono fun e W' ⟨he, hj⟩ => ⟨he, .inl ⟨_, rfl, hj⟩⟩
  · obtain ⟨g, cap, rfl, _, hgl⟩ := hI.form (by omega)
    refine (backward1_in F n hf hro hn l Bs n₀ g cap ps hw hl (hsv g rfl) J Jx hY W hc' (fun j p hj => row_range (own_grow hI hW) j p hj) h0).mono ?_
    rintro e W' ⟨he, ⟨ys, rfl, hj⟩ | ⟨pre, ⟨k, hk, rfl⟩, hj⟩⟩
    · exact ⟨he, .inl ⟨_, rfl, hj⟩⟩
    · exact ⟨he, .inr ⟨_, trivial, hj⟩⟩
end Go.Proofs.YtmmflekajbeamaaDoor

namespace Go.Proofs.YtmmflekajbeamaaDoor
open Go.RowKit

theorem fold_snoc {ps : List PutN} {k : Nat} {p : PutN} (h : ps[k]? = some p) : (ps.take (k + 1)).foldl knS kn0 = knS ((ps.take k).foldl knS kn0) p := foldl_take_succ _ _ _ _ _ h
theorem arB_arN (k : Nat) : arB (k : Int) = arN k := by
  unfold arB arN
  rw [Bool.eq_iff_iff, decide_eq_true_eq, decide_eq_true_eq]
  omega

theorem size59 : (Tryd.prog.info? 59).map (·.size) = some 5 := by kernel_rfl
theorem putV_S (q : PutN) : putV q = S (putZ q) := rfl
theorem wpList_storeM {ops : Array Oper} {rest : List Oper} {op : Oper} {a : Act} {w : World} {Q : Exit → Act → World → Prop} (hgd : op.guard = none) (x y : Operand) (ho : op.op = .store 59 x y)
    (b o : Nat) (q : PutN) (hx : a.eval x = .pointer (some ⟨b, o, none⟩)) (hy : a.eval y = .agg (putV q))
    (ht : w.there b o 5) (w' : World) (hw : w.setCells b o (putV q).toList = w') (h : wpList Tryd.prog ops Q rest (a.put op.dst undef) w') : wpList Tryd.prog ops Q (op :: rest) a w := by
  subst hw
  exact wpList_store_mid hgd 59 x y ho b o (putV q) hx hy ht size59 (by rw [putV_S]; exact S_one _) h
def set5 (z : List Int) (o : Nat) (q : PutN) : List Int := ((((z.set o (q.kind : Int)).set (o + 1) (q.d : Int)).set (o + 1 + 1) (q.a : Int)).set (o + 1 + 1 + 1) (q.b : Int)).set (o + 1 + 1 + 1 + 1) (q.k : Int)
theorem set5_app (a z : List Int) (o : Nat) (q : PutN) : set5 (a ++ z) (o + a.length) q = a ++ set5 z o q := by
  unfold set5
  rw [List.set_append_right _ _ (by omega), List.set_append_right _ _ (by omega), List.set_append_right _ _ (by omega), List.set_append_right _ _ (by omega), List.set_append_right _ _ (by omega)]
  simp only [Nat.add_sub_cancel]
  rw [show o + a.length + 1 - a.length = o + 1 by omega, show o + a.length + 1 + 1 - a.length = o + 1 + 1 by omega, show o + a.length + 1 + 1 + 1 - a.length = o + 1 + 1 + 1 by omega, show o + a.length + 1 + 1 + 1 + 1 - a.length = o + 1 + 1 + 1 + 1 by omega]
theorem lastZ_set (q : PutN) : ∀ (l : List PutN) (d : Nat), d < l.length → set5 (lastZ l) (d * 5) q = lastZ (l.set d q)
  | [], d, h => by simp at h
  | p :: l, 0, _ => rfl
  | p :: l, d + 1, h => by
    have e1 : lastZ (p :: l) = putZ p ++ lastZ l := by simp [lastZ]
    have e2 : lastZ ((p :: l).set (d + 1) q) = putZ p ++ lastZ (l.set d q) := by simp [lastZ]
    rw [e1, e2, show (d + 1) * 5 = d * 5 + (putZ p).length by rw [Nat.succ_mul]; rfl, set5_app, lastZ_set q l d (by simpa using h)]
theorem setCells5 (w : World) (b o : Nat) (q : PutN) : w.setCells b o (putV q).toList = ((((w.setCell ⟨b, o, none⟩ (.int .i64 (q.kind : Int))).setCell ⟨b, o + 1, none⟩ (.int .i64 (q.d : Int))).setCell ⟨b, o + 1 + 1, none⟩ (.int .i64 (q.a : Int))).setCell ⟨b, o + 1 + 1 + 1, none⟩ (.int .i64 (q.b : Int))).setCell ⟨b, o + 1 + 1 + 1 + 1, none⟩ (.int .i64 (q.k : Int)) := rfl
theorem setCells5_other (w : World) (b o : Nat) (q : PutN) (g : Nat) (h : g ≠ b) : (w.setCells b o (putV q).toList).heap[g]? = w.heap[g]? := by
  rw [setCells5]
  exact (heap_set_other _ _ h).trans ((heap_set_other _ _ h).trans ((heap_set_other _ _ h).trans ((heap_set_other _ _ h).trans (heap_set_other _ _ h))))
theorem setCells5_row {w : World} {b : Nat} {t : TypeId} {z : List Int} (h : RowI w b t z) (o : Nat) (q : PutN) : RowI (w.setCells b o (putV q).toList) b t (set5 z o q) := by
  rw [setCells5]
  exact ((((h.set o _).set (o + 1) _).set (o + 1 + 1) _).set (o + 1 + 1 + 1) _).set (o + 1 + 1 + 1 + 1) _
theorem RowI.there {w : World} {b : Nat} {t : TypeId} {z : List Int} (h : RowI w b t z) (o n : Nat) (ho : o + n ≤ z.length) : w.there b o n := fun j hj =>
  ⟨by rw [h.cell _ (by omega)]; rfl, h.frozen _⟩
theorem setCells5_below {w0 w : World} {B b : Nat} (h : Below B w0 w) (hb : B ≤ b) (o : Nat) (q : PutN) : Below B w0 (w.setCells b o (putV q).toList) := by
  rw [setCells5]
  exact ((((h.setCell (p := ⟨b, o, none⟩) hb _).setCell (p := ⟨b, o + 1, none⟩) hb _).setCell (p := ⟨b, o + 1 + 1, none⟩) hb _).setCell (p := ⟨b, o + 1 + 1 + 1, none⟩) hb _).setCell (p := ⟨b, o + 1 + 1 + 1 + 1, none⟩) hb _
/-- The last put on a register is laid down. -/
theorem kn_store {N : Nat} {wr wc : World} {l : List PutN} {d k : Nat} {q : PutN} {v : Value} {xs : List Value} (hrow : RowI wr N 190 (lastZ l)) (h8 : l.length = 8) (hd : d < 8) (hbc : Below wr.heap.size wr wc) (hp : RowI wc wr.heap.size 59 (putZ q)) (hown : wr.ownsRow (N + 1) 59 5 v k xs) :
    wc.there N (d * 5) 5 ∧ ∃ wS, wc.setCells N (d * 5) (putV q).toList = wS ∧ RowI wS N 190 (lastZ (l.set d q)) ∧ Below N wc wS ∧ RowI wS wr.heap.size 59 (putZ q) ∧ wS.ownsRow (N + 1) 59 5 v k xs ∧ wr.heap.size < wS.heap.size := by
  have hN := hrow.lt
  have hrc : RowI wc N 190 (lastZ l) := hrow.keep (hbc.block _ hN)
  have hl : (lastZ l).length = 40 := by rw [lastZ_len, h8]
  have hp' : RowI (wc.setCells N (d * 5) (putV q).toList) wr.heap.size 59 (putZ q) := hp.keep (setCells5_other _ _ _ _ _ (by omega))
  refine ⟨hrc.there _ _ (by omega), _, rfl, ?_, setCells5_below (Below.refl _ _) (Nat.le_refl _) _ _, hp', ?_, hp'.lt⟩
  · rw [← lastZ_set q l d (by omega)]
    exact setCells5_row hrc _ _
  · refine ownsRow_keep hown (fun g hg => ?_)
    have := row_lt hown g hg
    exact (setCells5_other _ _ _ _ _ (by omega)).trans (hbc.block _ this.2)

set_option maxRecDepth 100000 in
set_option maxHeartbeats 4000000 in
theorem withKnown_any (B : Nat) (pv : Value) (ps : List PutN) (w : World) (ho : w.ownsRow B 59 5 pv ps.length (putCs ps)) (hl : ps.length ≤ 8) (hw : ∀ p ∈ ps, okB p) :
    Calls Tryd.prog 101 #[pv] w fun e' w' => Below w.heap.size w w' ∧ ∃ v, e' = .returned v ∧ w'.ownsRow w.heap.size 59 5 v (wKn ps).length (putCs (wKn ps)) := by
  obtain ⟨inf, hinf, hz, hsz1, hby⟩ := infoPut
  have HInf := hide hinf; have HZ := hide hz; have HSz := hide hsz1; have HBy := hide hby
  clear hinf hz hsz1 hby
  obtain ⟨fa', fc', rfl⟩ := owns_len ho
  have HF := hide ho; have HW := hide hw
  have hl' : (ps.length : Int) ≤ 8 := by omega
  have z190 := zero190
  have HRr : Hid (RowI (w.alloc (.cells (S (lastZ (List.replicate 8 zPut))) 190)) w.heap.size 190 (lastZ kn0.1)) := _root_.Go.heap_alloc_new w _
  have hb1 := hide ((Below.refl w.heap.size w).alloc (Nat.le_refl _) (.cells (S (lastZ (List.replicate 8 zPut))) 190))
  clear ho hw
  go_enter Tryd.func101, Tryd.ntmps101
  go_wp2_with fail
  go_loopw [4, 11] (fun v i wr => ∃ (k : Nat) (st : List PutN × List PutN), k ≤ ps.length ∧ i = .int .i64 k ∧ Hid (st = (ps.take k).foldl knS kn0) ∧ wr.ownsRow (w.heap.size + 1) 59 5 v k (putCs st.2) ∧ RowI wr w.heap.size 190 (lastZ st.1) ∧ Below w.heap.size w wr) (fun _ i _ => ps.length - (intOf i).toNat)
  case atStart => exact ⟨0, kn0, Nat.zero_le _, rfl, rfl, World.ownsRow_nil _ _ _ _, HRr.out, hb1.out⟩
  case round =>
    obtain ⟨k, st, hk, rfl, HSt, hown, hrow, hbl⟩ := hrel
    obtain ⟨va, vc, hv⟩ := owns_len hown
    subst hv
    have HO := hide hown; have HBl := hide hbl; have HRw := hide hrow
    have hwz : w.heap.size < wr.heap.size := hrow.lt
    have hkn := KnOK.fold HW.out k hk
    rw [← HSt.out] at hkn
    by_cases hlt : k < ps.length
    · have hlt' : (k : Int) < (ps.length : Int) := by omega
      obtain ⟨g, cap, hform, _, hgl⟩ := HF.out.form (by omega)
      cases hform
      have hx : ps[k]? = some ps[k] := List.getElem?_eq_getElem hlt
      have hok := HW.out ps[k] (List.getElem_mem _)
      obtain ⟨x0, x1, x2, x3, x4⟩ := put_cells (own_grow HF.out (hbl.mono (Nat.le_refl _))) k ps[k] hx
      have HNx : Hid (knS st ps[k] = (ps.take (k + 1)).foldl knS kn0) := by unfold Hid; rw [fold_snoc hx, ← HSt.out]
      generalize ps[k] = p at *
      have hz40 : (lastZ st.1).length = 40 := by rw [lastZ_len, hkn.l8]
      have hla : ∀ j, j < 5 → wr.cell? ⟨w.heap.size, p.a * 5 + j, none⟩ = some (.int .i64 ((putZ (st.1.getD p.a zPut)).getD j 0)) := fun j hj => by
        rw [hrow.cell _ (by rw [hz40]; have := hok.2.2.2.1; omega), lastZ_get _ _ (by rw [hkn.l8]; exact hok.2.2.2.1) j hj]
      have hlb : ∀ j, j < 5 → wr.cell? ⟨w.heap.size, p.b * 5 + j, none⟩ = some (.int .i64 ((putZ (st.1.getD p.b zPut)).getD j 0)) := fun j hj => by
        rw [hrow.cell _ (by rw [hz40]; have := hok.2.2.2.2.1; omega), lastZ_get _ _ (by rw [hkn.l8]; exact hok.2.2.2.2.1) j hj]
      have hld : ∀ j, j < 5 → ∃ y, wr.cell? ⟨w.heap.size, p.d * 5 + j, none⟩ = some y := fun j hj => ⟨_, hrow.cell _ (by rw [hz40]; have := hok.2.2.1; omega)⟩
      have hKn : knS st p = (st.1.set p.d (knP st.1 p), st.2 ++ [knP st.1 p]) := rfl
      rw [hKn] at HNx
      have hKp : knP st.1 p = if arN p.kind = true ∧ (st.1.getD p.a zPut).kind = 1 ∧ (st.1.getD p.b zPut).kind = 1 then ⟨1, p.d, 0, 0, (wk p.kind (st.1.getD p.a zPut).k (st.1.getD p.b zPut).k).toNat⟩ else p := rfl
      have ea0 : wr.cell? ⟨w.heap.size, p.a * 5, none⟩ = _ := hla 0 (by decide)
      have ea1 : wr.cell? ⟨w.heap.size, p.a * 5 + 1, none⟩ = _ := hla 1 (by decide)
      have ea2 : wr.cell? ⟨w.heap.size, p.a * 5 + 1 + 1, none⟩ = _ := hla 2 (by decide)
      have ea3 : wr.cell? ⟨w.heap.size, p.a * 5 + 1 + 1 + 1, none⟩ = _ := hla 3 (by decide)
      have ea4 : wr.cell? ⟨w.heap.size, p.a * 5 + 1 + 1 + 1 + 1, none⟩ = _ := hla 4 (by decide)
      have eb0 : wr.cell? ⟨w.heap.size, p.b * 5, none⟩ = _ := hlb 0 (by decide)
      have eb1 : wr.cell? ⟨w.heap.size, p.b * 5 + 1, none⟩ = _ := hlb 1 (by decide)
      have eb2 : wr.cell? ⟨w.heap.size, p.b * 5 + 1 + 1, none⟩ = _ := hlb 2 (by decide)
      have eb3 : wr.cell? ⟨w.heap.size, p.b * 5 + 1 + 1 + 1, none⟩ = _ := hlb 3 (by decide)
      have eb4 : wr.cell? ⟨w.heap.size, p.b * 5 + 1 + 1 + 1 + 1, none⟩ = _ := hlb 4 (by decide)
      simp only [putZ, List.getD_cons_zero, List.getD_cons_succ] at ea0 ea1 ea2 ea3 ea4 eb0 eb1 eb2 eb3 eb4
      have HXb : Hid ((st.1.getD p.a zPut).k < 4294967296) := hkn.bd _ (by rw [List.getD_eq_getElem?_getD, List.getElem?_eq_getElem (by rw [hkn.l8]; exact hok.2.2.2.1)]; exact List.getElem_mem _)
      have HYb : Hid ((st.1.getD p.b zPut).k < 4294967296) := hkn.bd _ (by rw [List.getD_eq_getElem?_getD, List.getElem?_eq_getElem (by rw [hkn.l8]; exact hok.2.2.2.2.1)]; exact List.getElem_mem _)
      generalize st.1.getD p.a zPut = X at *
      generalize st.1.getD p.b zPut = Y at *
      obtain ⟨p0, p1, p2, p3, p4⟩ := p
      obtain ⟨q1, q2, q3, q4, q5, q6, _⟩ := hok
      simp only at q1 q2 q3 q4 q5 q6 x0 x1 x2 x3 x4 ea0 ea1 ea2 ea3 ea4 eb0 eb1 eb2 eb3 eb4 hKp
      obtain ⟨X0, X1, X2, X3, X4⟩ := X
      obtain ⟨Y0, Y1, Y2, Y3, Y4⟩ := Y
      simp only at ea0 ea1 ea2 ea3 ea4 eb0 eb1 eb2 eb3 eb4 hKp
      have q3' : (p2 : Int) < 8 := by omega
      have q4' : (p3 : Int) < 8 := by omega
      have q5' : (p1 : Int) < 8 := by omega
      clear hown hbl hrow hx hla hlb
      obtain ⟨W, hW⟩ : ∃ W, W = wr.alloc (.cells #[.int .i64 (p0 : Int), .int .i64 (p1 : Int), .int .i64 (p2 : Int), .int .i64 (p3 : Int), .int .i64 (p4 : Int)] 59) := ⟨_, rfl⟩
      have hzW : W.heap.size = wr.heap.size + 1 := by rw [hW, size_alloc1]
      have hbW : Below wr.heap.size wr W := by rw [hW]; exact (Below.refl _ _).alloc (Nat.le_refl _) _
      have hpb : ∀ j x, #[Value.int .i64 (p0 : Int), .int .i64 (p1 : Int), .int .i64 (p2 : Int), .int .i64 (p3 : Int), .int .i64 (p4 : Int)][j]? = some x → W.cell? ⟨wr.heap.size, j, none⟩ = some x := fun j x hj => by rw [hW, World.cell?_alloc_at (hn := rfl)]; exact hj
      have HPb : Hid (RowI W wr.heap.size 59 (putZ ⟨p0, p1, p2, p3, p4⟩)) := by unfold Hid RowI; rw [hW, _root_.Go.heap_alloc_new]; rfl
      have d0 := hpb 0 _ rfl; have d1 := hpb 1 _ rfl; have d2 := hpb 2 _ rfl; have d3 := hpb 3 _ rfl; have d4 := hpb 4 _ rfl
      have ea0 := (below_cell' hbW w.heap.size _ hwz).trans ea0
      have ea1 := (below_cell' hbW w.heap.size _ hwz).trans ea1
      have ea2 := (below_cell' hbW w.heap.size _ hwz).trans ea2
      have ea3 := (below_cell' hbW w.heap.size _ hwz).trans ea3
      have ea4 := (below_cell' hbW w.heap.size _ hwz).trans ea4
      have eb0 := (below_cell' hbW w.heap.size _ hwz).trans eb0
      have eb1 := (below_cell' hbW w.heap.size _ hwz).trans eb1
      have eb2 := (below_cell' hbW w.heap.size _ hwz).trans eb2
      have eb3 := (below_cell' hbW w.heap.size _ hwz).trans eb3
      have eb4 := (below_cell' hbW w.heap.size _ hwz).trans eb4
      have n1 := World.new_ne W _ ea0
      have n2 := World.new_ne W _ d0
      have HWb := hide hbW; have HWe := hide hW; have hld' := hide hld
      clear hbW hpb hld hKn hW hz40
      have HTwo : Hid (∀ a b, ((W.alloc a).alloc b).drew.heap[wr.heap.size + 1]? = some a ∧ ((W.alloc a).alloc b).drew.heap[wr.heap.size + 1 + 1]? = some b ∧ Below W.heap.size W ((W.alloc a).alloc b).drew) := fun a b => by
        refine ⟨?_, ?_, (((Below.refl _ _).alloc (Nat.le_refl _) _).alloc (by rw [size_alloc1]; omega) _).drew⟩
        · show ((W.alloc a).alloc b).heap[wr.heap.size + 1]? = _
          rw [Below.heap_alloc _ _ _ (by rw [size_alloc1]; omega), ← hzW, _root_.Go.heap_alloc_new]
        · show ((W.alloc a).alloc b).heap[wr.heap.size + 1 + 1]? = _
          rw [← hzW, ← size_alloc1 W a, _root_.Go.heap_alloc_new]
      have HKp := hide hKp
      clear hKp
      go_upto_region 6 with fail
      rw [← HWe.out]
      go_cut [7, 8] from 15 to 54 (fun x y wx => ∃ bX bY : Nat, x = .pointer (some ⟨bX, 0, none⟩) ∧ y = .pointer (some ⟨bY, 0, none⟩) ∧ Hid (wr.heap.size < bX ∧ wr.heap.size < bY ∧ wx.heap[bX]? = some (.cells #[.int .i64 (X0 : Int), .int .i64 (X1 : Int), .int .i64 (X2 : Int), .int .i64 (X3 : Int), .int .i64 (X4 : Int)] 59) ∧ wx.heap[bY]? = some (.cells #[.int .i64 (Y0 : Int), .int .i64 (Y1 : Int), .int .i64 (Y2 : Int), .int .i64 (Y3 : Int), .int .i64 (Y4 : Int)] 59) ∧ Below W.heap.size W wx))
      case first =>
        go_region_held3 (fun w' => w'.cell? ⟨wr.heap.size, 2, none⟩ = some (.int .i64 (p2 : Int)) ∧ w'.cell? ⟨wr.heap.size, 3, none⟩ = some (.int .i64 (p3 : Int)) ∧ w'.cell? ⟨w.heap.size, p2 * 5, none⟩ = some (.int .i64 (X0 : Int)) ∧ w'.cell? ⟨w.heap.size, p2 * 5 + 1, none⟩ = some (.int .i64 (X1 : Int)) ∧ w'.cell? ⟨w.heap.size, p2 * 5 + 1 + 1, none⟩ = some (.int .i64 (X2 : Int)) ∧ w'.cell? ⟨w.heap.size, p2 * 5 + 1 + 1 + 1, none⟩ = some (.int .i64 (X3 : Int)) ∧ w'.cell? ⟨w.heap.size, p2 * 5 + 1 + 1 + 1 + 1, none⟩ = some (.int .i64 (X4 : Int)) ∧ w'.cell? ⟨w.heap.size, p3 * 5, none⟩ = some (.int .i64 (Y0 : Int)) ∧ w'.cell? ⟨w.heap.size, p3 * 5 + 1, none⟩ = some (.int .i64 (Y1 : Int)) ∧ w'.cell? ⟨w.heap.size, p3 * 5 + 1 + 1, none⟩ = some (.int .i64 (Y2 : Int)) ∧ w'.cell? ⟨w.heap.size, p3 * 5 + 1 + 1 + 1, none⟩ = some (.int .i64 (Y3 : Int)) ∧ w'.cell? ⟨w.heap.size, p3 * 5 + 1 + 1 + 1 + 1, none⟩ = some (.int .i64 (Y4 : Int))) (go_keep) (fail)
        all_goals
          go_wp2_with fail
          go_meet
          first
          | exact ⟨_, _, rfl, rfl, by omega, by omega, (HTwo.out _ _).1, (HTwo.out _ _).2.1, (HTwo.out _ _).2.2⟩
          | exact ⟨_, _, rfl, rfl, by omega, by omega, (HTwo.out _ _).2.1, (HTwo.out _ _).1, (HTwo.out _ _).2.2⟩
      case rest =>
      obtain ⟨bX, bY, rfl, rfl, HC⟩ := hcut
      obtain ⟨lX, lY, gX, gY, hbc⟩ := HC.out
      have xc := fun j => cell_row gX j
      have yc := fun j => cell_row gY j
      have xx0 := xc 0; have xx4 := xc 4; have yy0 := yc 0; have yy4 := yc 4
      simp only [List.getElem?_toArray, List.getElem?_cons_zero, List.getElem?_cons_succ] at xx0 xx4 yy0 yy4
      have d0 := (below_cell' hbc wr.heap.size 0 (by omega)).trans d0
      have d1 := (below_cell' hbc wr.heap.size 1 (by omega)).trans d1
      have d2 := (below_cell' hbc wr.heap.size 2 (by omega)).trans d2
      have d3 := (below_cell' hbc wr.heap.size 3 (by omega)).trans d3
      have d4 := (below_cell' hbc wr.heap.size 4 (by omega)).trans d4
      have HAr := hide (fun w' => isArith_any (p0 : Int) w')
      have HBc := hide hbc
      clear xc yc gX gY hbc
      rw [arB_arN] at HAr
      by_cases hkk : arN p0 = true ∧ X0 = 1 ∧ Y0 = 1
      · obtain ⟨h1, rfl, rfl⟩ := hkk
        rw [if_pos ⟨h1, rfl, rfl⟩] at HKp
        rw [h1] at HAr
        have hx4 : X4 < 4294967296 := HXb.out
        have hy4 : Y4 < 4294967296 := HYb.out
        have hr := fun w' => reckon_any p0 X4 Y4 w' (by omega) (by omega) (by omega) (by omega) (by unfold arN at h1; rw [decide_eq_true_eq] at h1; omega) (by unfold arN at h1; rw [decide_eq_true_eq] at h1; omega)
        have hwb := wk_bd p0 X4 Y4 (by omega) (by omega) (by omega) (by omega)
        obtain ⟨c, hc⟩ := Int.eq_ofNat_of_zero_le hwb.1
        rw [hc] at hr HKp
        rw [Int.toNat_natCast] at HKp
        have HRk := hide hr
        clear hr hwb hc
        go_wp2_with fail
        refine (unhide HAr _).mono ?_
        rintro e w' ⟨rfl, hw'⟩
        obtain rfl := hw'.symm
        go_wp2_with fail
        refine held_tail 8 2 (fun w' => w'.cell? ⟨wr.heap.size, 0, none⟩ = some (.int .i64 (p0 : Int)) ∧ w'.cell? ⟨wr.heap.size, 1, none⟩ = some (.int .i64 (p1 : Int)) ∧ w'.cell? ⟨bX, 4, none⟩ = some (.int .i64 (X4 : Int)) ∧ w'.cell? ⟨bY, 4, none⟩ = some (.int .i64 (Y4 : Int))) (by kernel_rfl) (by kernel_rfl) (fun d _ _ _ _ h => by cases d <;> exact h) ⟨d0, d1, xx4, yy4⟩ ?_
        simp only [List.take_succ_cons, List.take_zero, List.drop_succ_cons, List.drop_zero]
        iterate 8
          refine wpTake_step ?_ rfl ?_ ?_
          rotate_left
          · rintro w' ⟨d0, d1, d2, d3⟩
            go_simp
            rfl
          go_simp
        refine wpTake_nil ?_
        refine wpTail_step rfl (fun K hK => ?_)
        go_simp
        refine (unhide HRk _).mono ?_
        rintro e w' ⟨rfl, hw'⟩
        obtain rfl := hw'.symm
        go_simp
        refine hK _ _ ⟨d0, d1, xx4, yy4⟩ ?_
        clear hK K
        refine wpTail_step rfl (fun K hK => ?_)
        go_simp
        refine hK _ _ ⟨d0, d1, xx4, yy4⟩ ?_
        clear hK K
        unfold wpTailS
        obtain ⟨wD, hwD⟩ : ∃ wD, wc.drew.setCells wr.heap.size 0 (putV ⟨1, p1, 0, 0, c⟩).toList = wD := ⟨_, rfl⟩
        have HwD := hide hwD
        have hpc : RowI wc.drew wr.heap.size 59 (putZ ⟨p0, p1, p2, p3, p4⟩) := HPb.out.keep (HBc.out.block _ (by omega))
        have HDt : Hid (wc.drew.there wr.heap.size 0 5) := hpc.there 0 5 (by simp [putZ])
        have HDp : Hid (RowI wD wr.heap.size 59 (putZ ⟨1, p1, 0, 0, c⟩)) := by unfold Hid; rw [← hwD]; exact setCells5_row hpc 0 _
        have HDb : Hid (Below wr.heap.size wr wD) := by unfold Hid; rw [← hwD]; exact setCells5_below ((HWb.out.trans (HBc.out.mono (by omega))).drew) (Nat.le_refl _) 0 _
        clear hwD hpc d0 d1 d2 d3 d4 xx0 xx4 yy0 yy4
        have d0 := HDp.out.cell 0 (by simp [putZ]); have d1 := HDp.out.cell 1 (by simp [putZ]); have d2 := HDp.out.cell 2 (by simp [putZ]); have d3 := HDp.out.cell 3 (by simp [putZ]); have d4 := HDp.out.cell 4 (by simp [putZ])
        simp only [gz, putZ, List.getD_cons_zero, List.getD_cons_succ] at d0 d1 d2 d3 d4
        go_upto_region 9 with (refine wpList_storeM rfl _ _ rfl wr.heap.size 0 ⟨1, p1, 0, 0, c⟩ rfl rfl HDt.out wD HwD.out ?_)
        have hKS := kn_store (d := p1) (q := ⟨1, p1, 0, 0, c⟩) HRw.out hkn.l8 q3 HDb.out HDp.out HO.out
        obtain ⟨ht5, wS, hwS, r1, b1, r2, o1, l1⟩ := hKS
        have s0 := r2.cell 0 (by simp [putZ]); have s1 := r2.cell 1 (by simp [putZ]); have s2 := r2.cell 2 (by simp [putZ]); have s3 := r2.cell 3 (by simp [putZ]); have s4 := r2.cell 4 (by simp [putZ])
        simp only [gz, putZ, List.getD_cons_zero, List.getD_cons_succ] at s0 s1 s2 s3 s4
        have HT5 := hide ht5; have HwS := hide hwS; have HR1 := hide r1; have HO1 := hide o1
        have HB1 : Hid (Below w.heap.size w wS) := (HBl.out.trans (HDb.out.mono (by omega))).trans b1
        clear ht5 hwS r1 b1 r2 o1
        go_wp2_with (first | (refine wpList_storeM rfl _ _ rfl w.heap.size (p1 * 5) ⟨1, p1, 0, 0, c⟩ rfl rfl HT5.out wS HwS.out ?_) | (at_builtin; refine wpList_append_lies _ rfl _ _ 61 rfl (w.heap.size + 1) 59 inf _ 5 40 Tryd.underlying61 HInf.out HZ.out HSz.out HBy.out rfl (by decide) (.slice va k vc) k (putCs st.2) rfl (HO1.out.alloc _) ⟨wS.heap.size, 0, none⟩ 1 1 [.int .i64 1, .int .i64 (p1 : Int), .int .i64 0, .int .i64 0, .int .i64 (c : Int)] rfl rfl (World.news_of_block (_root_.Go.heap_alloc_new wS _)) (fun u hu => by simp at hu; rcases hu with rfl | rfl | rfl | rfl | rfl <;> rfl) (by decide) (by unfold maxLen; omega) (by omega) (by rw [size_alloc1]; omega) (wS.heap.size + 1) (by rw [size_alloc1]) ?_; intro g2' cap2 w3 hown2 hgr2 hat2 hlt2; have HO3 := hide hown2; have HGr := hide hgr2; clear hown2 hgr2 hat2))
        refine ⟨⟨k + 1, (st.1.set p1 ⟨1, p1, 0, 0, c⟩, st.2 ++ [⟨1, p1, 0, 0, c⟩]), by omega, by go_num, ?_, ?_, ?_, ?_⟩, by simp [intOf]; omega⟩
        · exact (by rw [HKp.out] at HNx; exact HNx.out)
        · rw [putCs_snoc]
          exact HO3.out
        · refine HR1.out.keep ((HGr.out.block _ (by rw [size_alloc1]; have := HR1.out.lt; omega) (fun e => ?_)).trans (Below.heap_alloc wS _ _ HR1.out.lt))
          have := (row_lt HO1.out _ e.symm).1
          omega
        · exact (HB1.out.alloc (by have := HR1.out.lt; omega) _).grown HGr.out (by rw [size_alloc1]; have := HR1.out.lt; omega) (fun q hq => by have := (row_lt HO1.out q hq).1; omega)
      · rw [if_neg hkk] at HKp
        have hways : arN p0 = false ∨ (arN p0 = true ∧ ((X0 : Int) == 1) = false) ∨ (arN p0 = true ∧ ((X0 : Int) == 1) = true ∧ ((Y0 : Int) == 1) = false) := by
          cases h1 : arN p0
          · exact .inl rfl
          · refine .inr ?_
            by_cases h2 : X0 = 1
            · exact .inr ⟨rfl, by rw [beq_iff_eq]; omega, by rw [beq_eq_false_iff_ne]; exact fun h => hkk ⟨h1, h2, by omega⟩⟩
            · exact .inl ⟨rfl, by rw [beq_eq_false_iff_ne]; omega⟩
        clear hkk
        rcases hways with h1 | ⟨h1, h2⟩ | ⟨h1, h2, h3⟩
        all_goals
          rw [h1] at HAr
          go_wp2_with fail
          refine (unhide HAr _).mono ?_
          rintro e w' ⟨rfl, hw'⟩
          obtain rfl := hw'.symm
          go_upto_region 9 with fail
          have hKS := kn_store (d := p1) (q := ⟨p0, p1, p2, p3, p4⟩) HRw.out hkn.l8 q3 (HWb.out.trans (HBc.out.mono (by omega))) (HPb.out.keep (HBc.out.block _ (by omega))) HO.out
          obtain ⟨ht5, wS, hwS, r1, b1, r2, o1, l1⟩ := hKS
          have s0 := r2.cell 0 (by simp [putZ]); have s1 := r2.cell 1 (by simp [putZ]); have s2 := r2.cell 2 (by simp [putZ]); have s3 := r2.cell 3 (by simp [putZ]); have s4 := r2.cell 4 (by simp [putZ])
          simp only [gz, putZ, List.getD_cons_zero, List.getD_cons_succ] at s0 s1 s2 s3 s4
          have HT5 := hide ht5; have HwS := hide hwS; have HR1 := hide r1; have HO1 := hide o1
          have HB1 : Hid (Below w.heap.size w wS) := (HBl.out.trans ((HWb.out.trans (HBc.out.mono (by omega))).mono (by omega))).trans b1
          clear ht5 hwS r1 b1 r2 o1
          go_wp2_with (first | (refine wpList_storeM rfl _ _ rfl w.heap.size (p1 * 5) ⟨p0, p1, p2, p3, p4⟩ rfl rfl HT5.out wS HwS.out ?_) | (at_builtin; refine wpList_append_lies _ rfl _ _ 61 rfl (w.heap.size + 1) 59 inf _ 5 40 Tryd.underlying61 HInf.out HZ.out HSz.out HBy.out rfl (by decide) (.slice va k vc) k (putCs st.2) rfl (HO1.out.alloc _) ⟨wS.heap.size, 0, none⟩ 1 1 [.int .i64 (p0 : Int), .int .i64 (p1 : Int), .int .i64 (p2 : Int), .int .i64 (p3 : Int), .int .i64 (p4 : Int)] rfl rfl (World.news_of_block (_root_.Go.heap_alloc_new wS _)) (fun u hu => by simp at hu; rcases hu with rfl | rfl | rfl | rfl | rfl <;> rfl) (by decide) (by unfold maxLen; omega) (by omega) (by rw [size_alloc1]; omega) (wS.heap.size + 1) (by rw [size_alloc1]) ?_; intro g2' cap2 w3 hown2 hgr2 hat2 hlt2; have HO3 := hide hown2; have HGr := hide hgr2; clear hown2 hgr2 hat2))
          refine ⟨⟨k + 1, (st.1.set p1 ⟨p0, p1, p2, p3, p4⟩, st.2 ++ [⟨p0, p1, p2, p3, p4⟩]), by omega, by go_num, ?_, ?_, ?_, ?_⟩, by simp [intOf]; omega⟩
          · exact (by rw [HKp.out] at HNx; exact HNx.out)
          · rw [putCs_snoc]
            exact HO3.out
          · refine HR1.out.keep ((HGr.out.block _ (by rw [size_alloc1]; have := HR1.out.lt; omega) (fun e => ?_)).trans (Below.heap_alloc wS _ _ HR1.out.lt))
            have := (row_lt HO1.out _ e.symm).1
            omega
          · exact (HB1.out.alloc (by have := HR1.out.lt; omega) _).grown HGr.out (by rw [size_alloc1]; have := HR1.out.lt; omega) (fun q hq => by have := (row_lt HO1.out q hq).1; omega)
    · have hlt' : ¬ (k : Int) < (ps.length : Int) := by omega
      have hkn : k = ps.length := by omega
      subst hkn
      rw [List.take_length] at HSt
      have HE : Hid (st.2 = wKn ps) := by unfold Hid; rw [HSt.out]; rfl
      have HL : Hid ((wKn ps).length = ps.length) := (wKn_ok HW.out).2
      clear hown hbl hrow
      go_wp2_with fail
      go_ret
      refine ⟨HBl.out, _, rfl, ?_⟩
      rw [HL.out, ← HE.out]
      exact ⟨HO.out.1, HO.out.2.imp id (fun ⟨g, cap, cur, q1, q2, q3⟩ => ⟨g, cap, cur, q1, by omega, q3⟩)⟩
end Go.Proofs.YtmmflekajbeamaaDoor
