/-
  Translates: slices.Backward over puts: what its value hands out.
  Translates: slices.Reverse over puts.
-/
import Derived.Test.YtmmflekajbeamabGreatDoorW10
import Derived.RangeFuncNested
import Derived.RangeFuncBound
import Derived.RangeFuncCalls
import Derived.RangeFuncLeaves
import Derived.Shelf.Abstract
import Derived.Shelf.RegionOpen
import Derived.WalkKit
import Derived.OwnWalkIn
import Derived.TacticsInMore
import Derived.LoopNIn
import Derived.LoopIn
import Derived.Test.YtmmflekajbeamabGreatDoorW25
namespace Go.Proofs.YtmmflekajbeamabGreatDoor
open Go.RowKit Go.Shelf
attribute [local go_sem] Oper.semAt_some

def dPut : PutN := ⟨1, 0, 0, 0, 0⟩
theorem dPut_ok : okB dPut := ⟨by decide, by decide, by decide, by decide, by decide, by decide, ⟨by decide, by decide, by decide, .inl ⟨rfl, rfl, rfl⟩⟩⟩
/-- What comes in a round: a place and a put. -/
abbrev BkX := { x : Nat × PutN // okB x.2 }
def okBD (p : PutN) : Decidable (okB p) := by
  have h := okDec p
  unfold okB
  exact inferInstance
def bkF (ps : List PutN) (i : Nat) : BkX := @dite BkX (okB (ps.getD i dPut)) (okBD _) (fun h => ⟨(i, ps.getD i dPut), h⟩) (fun _ => ⟨(i, dPut), dPut_ok⟩)
theorem bkF_eq {ps : List PutN} (hw : ∀ p ∈ ps, okB p) {i : Nat} (hi : i < ps.length) : (bkF ps i).1 = (i, ps[i]) := by
  have e : ps.getD i dPut = ps[i] := by rw [List.getD_eq_getElem?_getD, List.getElem?_eq_getElem hi]; rfl
  have h : okB (ps.getD i dPut) := by rw [e]; exact hw _ (List.getElem_mem _)
  unfold bkF
  rw [dif_pos h]
  show (i, ps.getD i dPut) = _
  rw [e]
/-- What has come when k rounds are over. -/
def bkU (ps : List PutN) (k : Nat) : List BkX := (List.range k).map fun j => bkF ps (ps.length - 1 - j)
theorem bkU_succ (ps : List PutN) (k : Nat) : bkU ps (k + 1) = bkU ps k ++ [bkF ps (ps.length - 1 - k)] := by simp [bkU, List.range_succ]
theorem bkU_len (ps : List PutN) (k : Nat) : (bkU ps k).length = k := by simp [bkU]

/-- What a round keeps: what lay below n₁, and the block Bs. -/
def BKp (n₁ Bs : Nat) (W W' : World) : Prop := Below n₁ W W' ∧ W'.heap[Bs]? = W.heap[Bs]?
theorem BKp.refl (n₁ Bs : Nat) (W : World) : BKp n₁ Bs W W := ⟨Below.refl _ _, rfl⟩
theorem BKp.trans {n₁ Bs : Nat} {A B C : World} (h : BKp n₁ Bs A B) (h' : BKp n₁ Bs B C) : BKp n₁ Bs A C := ⟨h.1.trans h'.1, h'.2.trans h.2⟩
set_option maxRecDepth 100000 in
set_option maxHeartbeats 2000000 in
theorem backward1_in (F : Fence) (n : Nat) (hf : F.fn 265) (hro : F.round = none) (hn : 1 ≤ n) (l Bs n₀ g cap : Nat) (ps : List PutN) (hw : ∀ p ∈ ps, okB p) (hl : ps.length ≤ 8) (hb : g < n₀) (J Jx : List BkX → World → Prop)
    (hY : ∀ pre x W, J pre W → pre.length < ps.length → YieldAt F (n - 1) Tryz.prog l #[.int .i64 (x.1.1 : Int), .agg (putV x.1.2)] W fun e W' =>
      (e = .returned (.bool true) ∧ J (pre ++ [x]) W' ∧ BKp n₀ Bs W W') ∨ (e = .returned (.bool false) ∧ Jx (pre ++ [x]) W'))
    (W : World) (hc0 : W.cell? ⟨Bs, 0, none⟩ = some (.slice (some ⟨g, 0, none⟩) ps.length cap)) (hc : ∀ j p, ps[j]? = some p → W.rangeAt g (j * 5) (putV p).toList) (h0 : J [] W) :
    CallsIn F n Tryz.prog 265 #[.func (.yield l) #[] #[], .pointer (some ⟨Bs, 0, none⟩)] W fun e W' => (∃ v, e = .returned v) ∧
      ((∃ ys, ys = bkU ps ps.length ∧ J ys W') ∨ (∃ pre, (∃ k, k ≤ ps.length ∧ pre = bkU ps k) ∧ Jx pre W')) := by
  refine callsIn_of_wp Tryz.func265 rfl hf ?_ hro
  simp only [Tryz.ntmps265, List.size_toArray, List.length_cons, List.length_nil, Nat.reduceAdd, Nat.reduceSub, Array.replicate_succ, Array.replicate_zero, List.push_toArray, List.append_toArray, List.nil_append, List.cons_append]
  have hl' : (ps.length : Int) ≤ 8 := by omega
  gi_wp2
  gi_loopw [3] (fun i wr => ∃ k : Nat, k ≤ ps.length ∧ i = .int .i64 ((ps.length : Int) - 1 - k) ∧ J (bkU ps k) wr ∧ BKp n₀ Bs W wr)
    (fun i _ => (intOf i + 1).toNat)
  case atStart => exact ⟨0, Nat.zero_le _, by simp, h0, BKp.refl _ _ _⟩
  case round =>
    obtain ⟨k, hk, rfl, hJs, hnx⟩ := hrel
    have hcb := (cell_heap 0 hnx.2).trans hc0
    by_cases hlt : k < ps.length
    · obtain ⟨i, hi⟩ : ∃ i, ps.length - 1 - k = i := ⟨_, rfl⟩
      have hii : (ps.length : Int) - 1 - (k : Int) = (i : Int) := by omega
      have hil : i < ps.length := by omega
      have hil' : (i : Int) < (ps.length : Int) := by omega
      obtain ⟨fn, tmps, assign, body, hy, hR⟩ := hY _ (bkF ps i) wr hJs (by rw [bkU_len]; exact hlt)
      rw [bkF_eq hw hil] at hy
      have hx : ps[i]? = some ps[i] := List.getElem?_eq_getElem hil
      have hcr := hc i ps[i] hx
      have cx : ∀ j v, (putV ps[i]).toList[j]? = some v → wr.cell? ⟨g, i * 5 + j, none⟩ = some v := fun j v hv => (hnx.1.cell (p := ⟨g, i * 5 + j, none⟩) hb).trans (hcr j v hv)
      generalize ps[i] = p at *
      obtain ⟨p0, p1, p2, p3, p4⟩ := p
      have x0 : wr.cell? ⟨g, i * 5, none⟩ = some (.int .i64 (p0 : Int)) := cx 0 _ rfl
      have x1 : wr.cell? ⟨g, i * 5 + 1, none⟩ = some (.int .i64 (p1 : Int)) := cx 1 _ rfl
      have x2 : wr.cell? ⟨g, i * 5 + 1 + 1, none⟩ = some (.int .i64 (p2 : Int)) := cx 2 _ rfl
      have x3 : wr.cell? ⟨g, i * 5 + 1 + 1 + 1, none⟩ = some (.int .i64 (p3 : Int)) := cx 3 _ rfl
      have x4 : wr.cell? ⟨g, i * 5 + 1 + 1 + 1 + 1, none⟩ = some (.int .i64 (p4 : Int)) := cx 4 _ rfl
      simp only [putV] at hy
      rw [hii]
      clear cx hcr hx
      gi_wp2
      refine hR.mono ?_
      rintro e W3 (⟨rfl, hJ3, hk3⟩ | ⟨rfl, hJx3⟩)
      · gi_wp2
        go_roundw
        case rel => exact ⟨k + 1, by omega, by congr 1; omega, by rw [bkU_succ, hi]; exact hJ3, hnx.trans hk3⟩
        case measure => simp [intOf]
      · gi_wp2
        refine bodyPost_ret (results_none rfl _ _ _) rfl ?_
        exact ⟨⟨_, rfl⟩, .inr ⟨_, ⟨k + 1, by omega, by rw [bkU_succ, hi]⟩, hJx3⟩⟩
    · obtain rfl : k = ps.length := by omega
      have hneg : ¬ (0 : Int) ≤ (ps.length : Int) - 1 - (ps.length : Int) := by omega
      gi_wp2
      go_end0
      first
      | exact ⟨⟨_, rfl⟩, .inl ⟨_, rfl, hJs⟩⟩
      | exact ⟨⟨_, rfl⟩, .inl hJs⟩
set_option maxRecDepth 100000 in
set_option maxHeartbeats 2000000 in
theorem backward1_nil (F : Fence) (n : Nat) (hf : F.fn 265) (hro : F.round = none) (l Bs : Nat) (a : Option Addr) (cap : Nat) (J : List BkX → World → Prop) (W : World) (hc0 : W.cell? ⟨Bs, 0, none⟩ = some (.slice a 0 cap)) (h0 : J [] W) :
    CallsIn F n Tryz.prog 265 #[.func (.yield l) #[] #[], .pointer (some ⟨Bs, 0, none⟩)] W fun e W' => (∃ v, e = .returned v) ∧ J [] W' := by
  refine callsIn_of_wp Tryz.func265 rfl hf ?_ hro
  simp only [Tryz.ntmps265, List.size_toArray, List.length_cons, List.length_nil, Nat.reduceAdd, Nat.reduceSub, Array.replicate_succ, Array.replicate_zero, List.push_toArray, List.append_toArray, List.nil_append, List.cons_append]
  gi_wp2
  gi_loopw [3] (fun i wr => i = .int .i64 (-1) ∧ J [] wr) (fun _ _ => 0)
  case atStart => exact ⟨rfl, h0⟩
  case round =>
    obtain ⟨rfl, hJs⟩ := hrel
    gi_wp2
    go_end0
    exact ⟨⟨_, rfl⟩, hJs⟩
set_option maxHeartbeats 1000000 in
/-- slices.Backward itself: the slice is boxed; the value captures the box. -/
theorem backward_in (F : Fence) (n : Nat) (hf : F.fn 252) (hro : F.round = none) (a : Option Addr) (len cap : Nat) (w : World) :
    CallsIn F n Tryz.prog 252 #[.slice a len cap] w fun e w' => e = .returned (.func (.func 265) #[] #[.pointer (some ⟨w.heap.size, 0, none⟩)]) ∧ w' = w.alloc (.cells #[.slice a len cap] 134) := by
  refine callsIn_of_wp Tryz.func252 rfl hf ?_ hro
  simp only [Tryz.ntmps252, List.size_toArray, List.length_cons, List.length_nil, Nat.reduceAdd, Nat.reduceSub, Array.replicate_succ, Array.replicate_zero, List.push_toArray, List.append_toArray, List.nil_append, List.cons_append]
  gi_wp2
  go_ret
  exact ⟨rfl, rfl⟩
theorem row_range {w : World} {B g cap : Nat} {ps : List PutN} (h : w.ownsRow B 174 5 (.slice (some ⟨g, 0, none⟩) ps.length cap) ps.length (putCs ps)) (j : Nat) (p : PutN) (hj : ps[j]? = some p) : w.rangeAt g (j * 5) (putV p).toList := by
  intro i v hv
  have hlt : j < ps.length := (List.getElem?_eq_some_iff.1 hj).1
  have hi : i < 5 := (List.getElem?_eq_some_iff.1 hv).1
  rw [h.cellAt _ (by omega)]
  have := flat_at (fun p => (putV p).toList) 5 (fun _ => rfl) ps j p hj i hi
  unfold putCs
  rw [this]
  exact hv
/-- What slices.Backward hands back hands out all puts, the last first; or some of them. -/
theorem backward_stops (F : Fence) (n : Nat) (hf : F.fn 265) (hro : F.round = none) (hn : 1 ≤ n) (B Bs n₀ : Nat) (sv : Value) (ps : List PutN) (hw : ∀ p ∈ ps, okB p) (hl : ps.length ≤ 8) (w : World) (hBs : Bs < w.heap.size)
    (hc : w.cell? ⟨Bs, 0, none⟩ = some sv) (hI : w.ownsRow B 174 5 sv ps.length (putCs ps)) (hsv : ∀ g, sv.ownBlock = some g → g < n₀) :
    SeqStopsK F n Tryz.prog 265 #[.pointer (some ⟨Bs, 0, none⟩)] (fun x : BkX => #[Value.int .i64 (x.1.1 : Int), .agg (putV x.1.2)]) (BKp n₀ Bs) (fun ys => ys = bkU ps ps.length) (fun _ => True) ps.length w := fun l J Jx W hW _ _ hY h0 => by
  have hc' := (hW.cell (p := ⟨Bs, 0, none⟩) hBs).trans hc
  by_cases hz : ps.length = 0
  · obtain rfl : ps = [] := List.length_eq_zero_iff.1 hz
    obtain ⟨a, c, rfl⟩ := owns_len hI
    exact (backward1_nil F n hf hro l Bs a c J W hc' h0).mono fun e W' ⟨he, hj⟩ => ⟨he, .inl ⟨_, rfl, hj⟩⟩
  · obtain ⟨g, cap, rfl, _, hgl⟩ := hI.form (by omega)
    refine (backward1_in F n hf hro hn l Bs n₀ g cap ps hw hl (hsv g rfl) J Jx hY W hc' (fun j p hj => row_range (own_grow hI hW) j p hj) h0).mono ?_
    rintro e W' ⟨he, ⟨ys, rfl, hj⟩ | ⟨pre, ⟨k, hk, rfl⟩, hj⟩⟩
    · exact ⟨he, .inl ⟨_, rfl, hj⟩⟩
    · exact ⟨he, .inr ⟨_, trivial, hj⟩⟩
end Go.Proofs.YtmmflekajbeamabGreatDoor

namespace Go.Proofs.YtmmflekajbeamabGreatDoor
open Go.RowKit

/-- The list when k pairs have been changed. -/
def rvk (l : List PutN) (k : Nat) : List PutN := (List.range l.length).map fun m => if m < k ∨ l.length - k ≤ m then l.getD (l.length - 1 - m) zPut else l.getD m zPut
theorem rvk_len (l : List PutN) (k : Nat) : (rvk l k).length = l.length := by simp [rvk]
theorem rvk_get (l : List PutN) (k m : Nat) (h : m < l.length) : (rvk l k)[m]? = some (if m < k ∨ l.length - k ≤ m then l.getD (l.length - 1 - m) zPut else l.getD m zPut) := by
  unfold rvk
  rw [List.getElem?_map, List.getElem?_range h]; rfl
theorem getD_z {l : List PutN} {m : Nat} (h : m < l.length) : l[m]? = some (l.getD m zPut) := by rw [List.getD_eq_getElem?_getD, List.getElem?_eq_getElem h]; rfl
theorem rvk_zero (l : List PutN) : rvk l 0 = l := by
  apply List.ext_getElem?
  intro m
  by_cases h : m < l.length
  · rw [rvk_get l 0 m h, if_neg (by omega), getD_z h]
  · rw [List.getElem?_eq_none (by rw [rvk_len]; omega), List.getElem?_eq_none (by omega)]
theorem rvk_end (l : List PutN) (k : Nat) (h : ¬ k + 1 + k < l.length) : rvk l k = l.reverse := by
  apply List.ext_getElem?
  intro m
  by_cases hm : m < l.length
  · rw [rvk_get l k m hm, List.getElem?_reverse hm, getD_z (by omega)]
    by_cases hc : m < k ∨ l.length - k ≤ m
    · rw [if_pos hc]
    · rw [if_neg hc, show l.length - 1 - m = m by omega]
  · rw [List.getElem?_eq_none (by rw [rvk_len]; omega), List.getElem?_eq_none (by simp; omega)]
theorem rvk_succ (l : List PutN) (k : Nat) (h : k + 1 + k < l.length) : ((rvk l k).set k (l.getD (l.length - 1 - k) zPut)).set (l.length - 1 - k) (l.getD k zPut) = rvk l (k + 1) := by
  apply List.ext_getElem?
  intro m
  rw [List.getElem?_set, List.getElem?_set, List.length_set, rvk_len]
  by_cases hm : m < l.length
  · rw [rvk_get l (k + 1) m hm]
    by_cases h1 : l.length - 1 - k = m
    · rw [if_pos h1, if_pos (by omega), if_pos (by omega), show l.length - 1 - m = k by omega]
    · rw [if_neg h1]
      by_cases h2 : k = m
      · rw [if_pos h2, if_pos (by omega), if_pos (by omega), h2]
      · rw [if_neg h2, rvk_get l k m hm]
        by_cases hc : m < k ∨ l.length - k ≤ m
        · rw [if_pos hc, if_pos (by omega)]
        · rw [if_neg hc, if_neg (by omega)]
  · rw [if_neg (by omega), if_neg (by omega), List.getElem?_eq_none (by rw [rvk_len]; omega), List.getElem?_eq_none (by rw [rvk_len]; omega)]

def set5V (z : List Value) (o : Nat) (q : PutN) : List Value := ((((z.set o (.int .i64 (q.kind : Int))).set (o + 1) (.int .i64 (q.d : Int))).set (o + 1 + 1) (.int .i64 (q.a : Int))).set (o + 1 + 1 + 1) (.int .i64 (q.b : Int))).set (o + 1 + 1 + 1 + 1) (.int .i64 (q.k : Int))
theorem set5V_app (a z : List Value) (o : Nat) (q : PutN) : set5V (a ++ z) (o + a.length) q = a ++ set5V z o q := by
  unfold set5V
  rw [List.set_append_right _ _ (by omega), List.set_append_right _ _ (by omega), List.set_append_right _ _ (by omega), List.set_append_right _ _ (by omega), List.set_append_right _ _ (by omega)]
  simp only [Nat.add_sub_cancel]
  rw [show o + a.length + 1 - a.length = o + 1 by omega, show o + a.length + 1 + 1 - a.length = o + 1 + 1 by omega, show o + a.length + 1 + 1 + 1 - a.length = o + 1 + 1 + 1 by omega, show o + a.length + 1 + 1 + 1 + 1 - a.length = o + 1 + 1 + 1 + 1 by omega]
theorem putCs_set (q : PutN) : ∀ (l : List PutN) (d : Nat), d < l.length → set5V (putCs l) (d * 5) q = putCs (l.set d q)
  | [], d, h => by simp at h
  | p :: l, 0, _ => rfl
  | p :: l, d + 1, h => by
    have e1 : putCs (p :: l) = (putV p).toList ++ putCs l := by simp [putCs]
    have e2 : putCs ((p :: l).set (d + 1) q) = (putV p).toList ++ putCs (l.set d q) := by simp [putCs]
    rw [e1, e2, show (d + 1) * 5 = d * 5 + (putV p).toList.length by rw [Nat.succ_mul]; rfl, set5V_app, putCs_set q l d (by simpa using h)]
theorem own_set5 {w : World} {B g n cap : Nat} {l : List PutN} (h : w.ownsRow B 174 5 (.slice (some ⟨g, 0, none⟩) n cap) n (putCs l)) (d : Nat) (hd : d < l.length) (q : PutN) : (w.setCells g (d * 5) (putV q).toList).ownsRow B 174 5 (.slice (some ⟨g, 0, none⟩) n cap) n (putCs (l.set d q)) := by
  rw [setCells5, ← putCs_set q l d hd]
  exact (((((h.stored (d * 5) _).1.stored (d * 5 + 1) _).1.stored (d * 5 + 1 + 1) _).1.stored (d * 5 + 1 + 1 + 1) _).1.stored (d * 5 + 1 + 1 + 1 + 1) _).1

theorem off_ne {k j : Nat} (a b : Nat) (h : k < j) (ha : a < 5) : ¬ k * 5 + a = j * 5 + b := by omega
theorem off_ne' {k j : Nat} (a b : Nat) (h : k < j) (ha : a < 5) : ¬ j * 5 + b = k * 5 + a := by omega
set_option maxRecDepth 100000 in
set_option maxHeartbeats 8000000 in
theorem reverse_any (B g cap : Nat) (l : List PutN) (w : World) (ho : w.ownsRow B 174 5 (.slice (some ⟨g, 0, none⟩) l.length cap) l.length (putCs l)) (hl : l.length ≤ 8) :
    Calls Tryz.prog 253 #[.slice (some ⟨g, 0, none⟩) l.length cap] w fun e' w' => e' = .returned (.tuple #[]) ∧ w'.ownsRow B 174 5 (.slice (some ⟨g, 0, none⟩) l.length cap) l.length (putCs l.reverse) ∧ (∀ g', g' ≠ g → w'.heap[g']? = w.heap[g']?) ∧ Below B w w' := by
  have HO := hide ho
  have hl' : (l.length : Int) ≤ 8 := by omega
  clear ho
  go_enter Tryz.func253, Tryz.ntmps253
  go_wp2_with fail
  go_loopw [2, 3] (fun i j wr => ∃ k : Nat, k ≤ l.length ∧ i = .int .i64 k ∧ j = .int .i64 ((l.length : Int) - 1 - k) ∧ Hid (wr.ownsRow B 174 5 (.slice (some ⟨g, 0, none⟩) l.length cap) l.length (putCs (rvk l k)) ∧ (∀ g', g' ≠ g → wr.heap[g']? = w.heap[g']?) ∧ Below B w wr)) (fun i _ _ => l.length - (intOf i).toNat)
  case atStart => exact ⟨0, Nat.zero_le _, rfl, by simp, by rw [rvk_zero]; exact HO.out, fun _ _ => rfl, Below.refl _ _⟩
  case round =>
    obtain ⟨k, hk, rfl, rfl, HR⟩ := hrel
    by_cases hlt : k + 1 + k < l.length
    · obtain ⟨j, hj⟩ : ∃ j, l.length - 1 - k = j := ⟨_, rfl⟩
      have hjj : (l.length : Int) - 1 - (k : Int) = (j : Int) := by omega
      have hjl : j < l.length := by omega
      have hjl' : (j : Int) < (l.length : Int) := by omega
      have hkl' : (k : Int) < (l.length : Int) := by omega
      have hkj : (k : Int) < (j : Int) := by omega
      have hkjn : k < j := by omega
      rw [hjj]
      obtain ⟨h1, h2, h3⟩ := HR.out
      have e : (rvk l k).length = l.length := rvk_len l k
      have h1' := h1
      rw [← e] at h1'
      have hxk : (rvk l k)[k]? = some (l.getD k zPut) := by rw [rvk_get l k k (by omega), if_neg (by omega)]
      have hxj : (rvk l k)[j]? = some (l.getD j zPut) := by rw [rvk_get l k j hjl, if_neg (by omega)]
      obtain ⟨x0, x1, x2, x3, x4⟩ := put_cells h1' k _ hxk
      obtain ⟨y0, y1, y2, y3, y4⟩ := put_cells h1' j _ hxj
      have fk0 : wr.frozen? ⟨g, k * 5, none⟩ = false := h1.frozenAt _
      have fj0 : wr.frozen? ⟨g, j * 5, none⟩ = false := h1.frozenAt _
      have fk1 : wr.frozen? ⟨g, k * 5 + 1, none⟩ = false := h1.frozenAt _
      have fj1 : wr.frozen? ⟨g, j * 5 + 1, none⟩ = false := h1.frozenAt _
      have fk2 : wr.frozen? ⟨g, k * 5 + 2, none⟩ = false := h1.frozenAt _
      have fj2 : wr.frozen? ⟨g, j * 5 + 2, none⟩ = false := h1.frozenAt _
      have fk3 : wr.frozen? ⟨g, k * 5 + 3, none⟩ = false := h1.frozenAt _
      have fj3 : wr.frozen? ⟨g, j * 5 + 3, none⟩ = false := h1.frozenAt _
      have fk4 : wr.frozen? ⟨g, k * 5 + 4, none⟩ = false := h1.frozenAt _
      have fj4 : wr.frozen? ⟨g, j * 5 + 4, none⟩ = false := h1.frozenAt _
      have hsucc := rvk_succ l k hlt
      rw [hj] at hsucc
      generalize l.getD k zPut = X at *
      generalize l.getD j zPut = Y at *
      obtain ⟨X0, X1, X2, X3, X4⟩ := X
      obtain ⟨Y0, Y1, Y2, Y3, Y4⟩ := Y
      simp only at x0 x1 x2 x3 x4 y0 y1 y2 y3 y4
      have HF : Hid (∀ WF, WF = (wr.setCells g (k * 5) (putV ⟨Y0, Y1, Y2, Y3, Y4⟩).toList).setCells g (j * 5) (putV ⟨X0, X1, X2, X3, X4⟩).toList → (WF.drew.ownsRow B 174 5 (.slice (some ⟨g, 0, none⟩) l.length cap) l.length (putCs (rvk l (k + 1))) ∧ (∀ g', g' ≠ g → WF.drew.heap[g']? = w.heap[g']?) ∧ Below B w WF.drew)) := by
        intro WF hWF
        have hBg : B ≤ g := (row_lt h1 g rfl).1
        have f1 : WF.ownsRow B 174 5 (.slice (some ⟨g, 0, none⟩) l.length cap) l.length (putCs (rvk l (k + 1))) := by
          rw [hWF, ← hsucc]
          exact own_set5 (own_set5 h1 k (by omega) _) j (by rw [List.length_set]; omega) _
        have f2 : ∀ g', g' ≠ g → WF.heap[g']? = w.heap[g']? := fun g' hg => by
          rw [hWF, setCells5_other _ _ _ _ _ hg, setCells5_other _ _ _ _ _ hg, h2 g' hg]
        have f3 : Below B w WF := by
          rw [hWF]
          exact setCells5_below (setCells5_below h3 hBg _ _) hBg _ _
        exact ⟨ownsRow_keep f1 (fun _ _ => rfl), f2, f3.drew⟩
      have ne00 : ¬ k * 5 = j * 5 := off_ne 0 0 hkjn (by decide)
      have nf00 : ¬ j * 5 = k * 5 := off_ne' 0 0 hkjn (by decide)
      have ne01 : ¬ k * 5 = j * 5 + 1 := off_ne 0 1 hkjn (by decide)
      have nf01 : ¬ j * 5 + 1 = k * 5 := off_ne' 0 1 hkjn (by decide)
      have ne02 : ¬ k * 5 = j * 5 + 2 := off_ne 0 2 hkjn (by decide)
      have nf02 : ¬ j * 5 + 2 = k * 5 := off_ne' 0 2 hkjn (by decide)
      have ne03 : ¬ k * 5 = j * 5 + 3 := off_ne 0 3 hkjn (by decide)
      have nf03 : ¬ j * 5 + 3 = k * 5 := off_ne' 0 3 hkjn (by decide)
      have ne04 : ¬ k * 5 = j * 5 + 4 := off_ne 0 4 hkjn (by decide)
      have nf04 : ¬ j * 5 + 4 = k * 5 := off_ne' 0 4 hkjn (by decide)
      have ne10 : ¬ k * 5 + 1 = j * 5 := off_ne 1 0 hkjn (by decide)
      have nf10 : ¬ j * 5 = k * 5 + 1 := off_ne' 1 0 hkjn (by decide)
      have ne11 : ¬ k * 5 + 1 = j * 5 + 1 := off_ne 1 1 hkjn (by decide)
      have nf11 : ¬ j * 5 + 1 = k * 5 + 1 := off_ne' 1 1 hkjn (by decide)
      have ne12 : ¬ k * 5 + 1 = j * 5 + 2 := off_ne 1 2 hkjn (by decide)
      have nf12 : ¬ j * 5 + 2 = k * 5 + 1 := off_ne' 1 2 hkjn (by decide)
      have ne13 : ¬ k * 5 + 1 = j * 5 + 3 := off_ne 1 3 hkjn (by decide)
      have nf13 : ¬ j * 5 + 3 = k * 5 + 1 := off_ne' 1 3 hkjn (by decide)
      have ne14 : ¬ k * 5 + 1 = j * 5 + 4 := off_ne 1 4 hkjn (by decide)
      have nf14 : ¬ j * 5 + 4 = k * 5 + 1 := off_ne' 1 4 hkjn (by decide)
      have ne20 : ¬ k * 5 + 2 = j * 5 := off_ne 2 0 hkjn (by decide)
      have nf20 : ¬ j * 5 = k * 5 + 2 := off_ne' 2 0 hkjn (by decide)
      have ne21 : ¬ k * 5 + 2 = j * 5 + 1 := off_ne 2 1 hkjn (by decide)
      have nf21 : ¬ j * 5 + 1 = k * 5 + 2 := off_ne' 2 1 hkjn (by decide)
      have ne22 : ¬ k * 5 + 2 = j * 5 + 2 := off_ne 2 2 hkjn (by decide)
      have nf22 : ¬ j * 5 + 2 = k * 5 + 2 := off_ne' 2 2 hkjn (by decide)
      have ne23 : ¬ k * 5 + 2 = j * 5 + 3 := off_ne 2 3 hkjn (by decide)
      have nf23 : ¬ j * 5 + 3 = k * 5 + 2 := off_ne' 2 3 hkjn (by decide)
      have ne24 : ¬ k * 5 + 2 = j * 5 + 4 := off_ne 2 4 hkjn (by decide)
      have nf24 : ¬ j * 5 + 4 = k * 5 + 2 := off_ne' 2 4 hkjn (by decide)
      have ne30 : ¬ k * 5 + 3 = j * 5 := off_ne 3 0 hkjn (by decide)
      have nf30 : ¬ j * 5 = k * 5 + 3 := off_ne' 3 0 hkjn (by decide)
      have ne31 : ¬ k * 5 + 3 = j * 5 + 1 := off_ne 3 1 hkjn (by decide)
      have nf31 : ¬ j * 5 + 1 = k * 5 + 3 := off_ne' 3 1 hkjn (by decide)
      have ne32 : ¬ k * 5 + 3 = j * 5 + 2 := off_ne 3 2 hkjn (by decide)
      have nf32 : ¬ j * 5 + 2 = k * 5 + 3 := off_ne' 3 2 hkjn (by decide)
      have ne33 : ¬ k * 5 + 3 = j * 5 + 3 := off_ne 3 3 hkjn (by decide)
      have nf33 : ¬ j * 5 + 3 = k * 5 + 3 := off_ne' 3 3 hkjn (by decide)
      have ne34 : ¬ k * 5 + 3 = j * 5 + 4 := off_ne 3 4 hkjn (by decide)
      have nf34 : ¬ j * 5 + 4 = k * 5 + 3 := off_ne' 3 4 hkjn (by decide)
      have ne40 : ¬ k * 5 + 4 = j * 5 := off_ne 4 0 hkjn (by decide)
      have nf40 : ¬ j * 5 = k * 5 + 4 := off_ne' 4 0 hkjn (by decide)
      have ne41 : ¬ k * 5 + 4 = j * 5 + 1 := off_ne 4 1 hkjn (by decide)
      have nf41 : ¬ j * 5 + 1 = k * 5 + 4 := off_ne' 4 1 hkjn (by decide)
      have ne42 : ¬ k * 5 + 4 = j * 5 + 2 := off_ne 4 2 hkjn (by decide)
      have nf42 : ¬ j * 5 + 2 = k * 5 + 4 := off_ne' 4 2 hkjn (by decide)
      have ne43 : ¬ k * 5 + 4 = j * 5 + 3 := off_ne 4 3 hkjn (by decide)
      have nf43 : ¬ j * 5 + 3 = k * 5 + 4 := off_ne' 4 3 hkjn (by decide)
      have ne44 : ¬ k * 5 + 4 = j * 5 + 4 := off_ne 4 4 hkjn (by decide)
      have nf44 : ¬ j * 5 + 4 = k * 5 + 4 := off_ne' 4 4 hkjn (by decide)
      clear h1 h1' h2 h3 e hxk hxj hlt hsucc
      go_wp2_with fail
      go_region
      all_goals
        go_wp2_with fail
        clear ne00 nf00 ne01 nf01 ne02 nf02 ne03 nf03 ne04 nf04 ne10 nf10 ne11 nf11 ne12 nf12 ne13 nf13 ne14 nf14 ne20 nf20 ne21 nf21 ne22 nf22 ne23 nf23 ne24 nf24 ne30 nf30 ne31 nf31 ne32 nf32 ne33 nf33 ne34 nf34 ne40 nf40 ne41 nf41 ne42 nf42 ne43 nf43 ne44 nf44
        refine ⟨⟨k + 1, by omega, by go_num, by congr 1; omega, ?_⟩, by simp [intOf]; omega⟩
        exact HF.out _ rfl
    · have hkj : ¬ (k : Int) < (l.length : Int) - 1 - (k : Int) := by omega
      have HE := hide (rvk_end l k hlt)
      clear hlt
      go_wp2_with fail
      go_end0
      obtain ⟨h1, h2, h3⟩ := HR.out
      rw [HE.out] at h1
      exact ⟨rfl, h1, h2, h3⟩
set_option maxRecDepth 100000 in
set_option maxHeartbeats 2000000 in
theorem reverse_nil (a : Option Addr) (cap : Nat) (w : World) :
    Calls Tryz.prog 253 #[.slice a 0 cap] w fun e' w' => e' = .returned (.tuple #[]) ∧ w' = w := by
  go_enter Tryz.func253, Tryz.ntmps253
  go_wp2_with fail
  go_loopw [2, 3] (fun i j wr => i = .int .i64 0 ∧ j = .int .i64 (-1) ∧ wr = w) (fun _ _ _ => 0)
  case atStart => exact ⟨rfl, rfl, rfl⟩
  case round =>
    obtain ⟨rfl, rfl, rfl⟩ := hrel
    go_wp2_with fail
    go_end0
    exact ⟨rfl, rfl⟩
end Go.Proofs.YtmmflekajbeamabGreatDoor
