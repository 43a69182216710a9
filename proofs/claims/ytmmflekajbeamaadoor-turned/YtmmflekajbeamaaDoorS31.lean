/-
  Translates: slices.Reverse over puts.
  Translates: puts without those whose slot nobody needs (translator.withoutIdle).
-/
import Derived.Test.YtmmflekajbeamaaDoorS30
import Derived.Maps.AppendAt
namespace Go.Proofs.YtmmflekajbeamaaDoor
open Go.RowKit

/-- The list when k pairs have been changed. -/
def rvk (l : List PutN) (k : Nat) : List PutN := (List.range l.length).map fun m => if m < k ∨ l.length - k ≤ m then l.getD (l.length - 1 - m) zPut else l.getD m zPut
theorem rvk_len (l : List PutN) (k : Nat) : (rvk l k).length = l.length := by simp [rvk]
theorem rvk_get (l : List PutN) (k m : Nat) (h : m < l.length) : (rvk l k)[m]? = some (if m < k ∨ l.length - k ≤ m then l.getD (l.length - 1 - m) zPut else l.getD m zPut) := by
  unfold rvk
  rw [List.getElem?_map, List.getElem?_range h]; rfl
theorem getD_z {l : List PutN} {m : Nat} (h : m < l.length) : l[m]? = some (l.getD m zPut) := by rw [List.getD_eq_getElem?_getD, List.getElem?_eq_getElem h]; rfl
theorem rvk_zero (l : List PutN) : rvk l 0 = l := by
  apply List.ext_getElem?
  intro m
  by_cases h : m < l.length
  · rw [rvk_get l 0 m h, if_neg (by omega), getD_z h]
  · rw [List.getElem?_eq_none (by rw [rvk_len]; omega), List.getElem?_eq_none (by omega)]
theorem rvk_end (l : List PutN) (k : Nat) (h : ¬ k + 1 + k < l.length) : rvk l k = l.reverse := by
  apply List.ext_getElem?
  intro m
  by_cases hm : m < l.length
  · rw [rvk_get l k m hm, List.getElem?_reverse hm, getD_z (by omega)]
    by_cases hc : m < k ∨ l.length - k ≤ m
    · rw [if_pos hc]
    · rw [if_neg hc, show l.length - 1 - m = m by omega]
  · rw [List.getElem?_eq_none (by rw [rvk_len]; omega), List.getElem?_eq_none (by simp; omega)]
theorem rvk_succ (l : List PutN) (k : Nat) (h : k + 1 + k < l.length) : ((rvk l k).set k (l.getD (l.length - 1 - k) zPut)).set (l.length - 1 - k) (l.getD k zPut) = rvk l (k + 1) := by
  apply List.ext_getElem?
  intro m
  rw [List.getElem?_set, List.getElem?_set, List.length_set, rvk_len]
  by_cases hm : m < l.length
  · rw [rvk_get l (k + 1) m hm]
    by_cases h1 : l.length - 1 - k = m
    · rw [if_pos h1, if_pos (by omega), if_pos (by omega), show l.length - 1 - m = k by omega]
    · rw [if_neg h1]
      by_cases h2 : k = m
      · rw [if_pos h2, if_pos (by omega), if_pos (by omega), h2]
      · rw [if_neg h2, rvk_get l k m hm]
        by_cases hc : m < k ∨ l.length - k ≤ m
        · rw [if_pos hc, if_pos (by omega)]
        · rw [if_neg hc, if_neg (by omega)]
  · rw [if_neg (by omega), if_neg (by omega), List.getElem?_eq_none (by rw [rvk_len]; omega), List.getElem?_eq_none (by rw [rvk_len]; omega)]

def set5V (z : List Value) (o : Nat) (q : PutN) : List Value := ((((z.set o (.int .i64 (q.kind : Int))).set (o + 1) (.int .i64 (q.d : Int))).set (o + 1 + 1) (.int .i64 (q.a : Int))).set (o + 1 + 1 + 1) (.int .i64 (q.b : Int))).set (o + 1 + 1 + 1 + 1) (.int .i64 (q.k : Int))
theorem set5V_app (a z : List Value) (o : Nat) (q : PutN) : set5V (a ++ z) (o + a.length) q = a ++ set5V z o q := by
  unfold set5V
  rw [List.set_append_right _ _ (by omega), List.set_append_right _ _ (by omega), List.set_append_right _ _ (by omega), List.set_append_right _ _ (by omega), List.set_append_right _ _ (by omega)]
  simp only [Nat.add_sub_cancel]
  rw [show o + a.length + 1 - a.length = o + 1 by omega, show o + a.length + 1 + 1 - a.length = o + 1 + 1 by omega, show o + a.length + 1 + 1 + 1 - a.length = o + 1 + 1 + 1 by omega, show o + a.length + 1 + 1 + 1 + 1 - a.length = o + 1 + 1 + 1 + 1 by omega]
theorem putCs_set (q : PutN) : ∀ (l : List PutN) (d : Nat), d < l.length → set5V (putCs l) (d * 5) q = putCs (l.set d q)
  | [], d, h => by simp at h
  | p :: l, 0, _ => rfl
  | p :: l, d + 1, h => by
    have e1 : putCs (p :: l) = (putV p).toList ++ putCs l := by simp [putCs]
    have e2 : putCs ((p :: l).set (d + 1) q) = (putV p).toList ++ putCs (l.set d q) := by simp [putCs]
    rw [e1, e2, show (d + 1) * 5 = d * 5 + (putV p).toList.length by rw [Nat.succ_mul]; rfl, set5V_app, putCs_set q l d (by simpa using h)]
theorem own_set5 {w : World} {B g n cap : Nat} {l : List PutN} (h : w.ownsRow B 59 5 (.slice (some ⟨g, 0, none⟩) n cap) n (putCs l)) (d : Nat) (hd : d < l.length) (q : PutN) : (w.setCells g (d * 5) (putV q).toList).ownsRow B 59 5 (.slice (some ⟨g, 0, none⟩) n cap) n (putCs (l.set d q)) := by
  rw [setCells5, ← putCs_set q l d hd]
  exact (((((h.stored (d * 5) _).1.stored (d * 5 + 1) _).1.stored (d * 5 + 1 + 1) _).1.stored (d * 5 + 1 + 1 + 1) _).1.stored (d * 5 + 1 + 1 + 1 + 1) _).1

theorem off_ne {k j : Nat} (a b : Nat) (h : k < j) (ha : a < 5) : ¬ k * 5 + a = j * 5 + b := by omega
theorem off_ne' {k j : Nat} (a b : Nat) (h : k < j) (ha : a < 5) : ¬ j * 5 + b = k * 5 + a := by omega
set_option maxRecDepth 100000 in
set_option maxHeartbeats 8000000 in
theorem reverse_any (B g cap : Nat) (l : List PutN) (w : World) (ho : w.ownsRow B 59 5 (.slice (some ⟨g, 0, none⟩) l.length cap) l.length (putCs l)) (hl : l.length ≤ 8) :
    Calls Tryd.prog 137 #[.slice (some ⟨g, 0, none⟩) l.length cap] w fun e' w' => e' = .returned (.tuple #[]) ∧ w'.ownsRow B 59 5 (.slice (some ⟨g, 0, none⟩) l.length cap) l.length (putCs l.reverse) ∧ (∀ g', g' ≠ g → w'.heap[g']? = w.heap[g']?) ∧ Below B w w' := by
  have HO := hide ho
  have hl' : (l.length : Int) ≤ 8 := by omega
  clear ho
  go_enter Tryd.func137, Tryd.ntmps137
  go_wp2_with fail
  go_loopw [2, 3] (fun i j wr => ∃ k : Nat, k ≤ l.length ∧ i = .int .i64 k ∧ j = .int .i64 ((l.length : Int) - 1 - k) ∧ Hid (wr.ownsRow B 59 5 (.slice (some ⟨g, 0, none⟩) l.length cap) l.length (putCs (rvk l k)) ∧ (∀ g', g' ≠ g → wr.heap[g']? = w.heap[g']?) ∧ Below B w wr)) (fun i _ _ => l.length - (intOf i).toNat)
  case atStart => exact ⟨0, Nat.zero_le _, rfl, by simp, by rw [rvk_zero]; exact HO.out, fun _ _ => rfl, Below.refl _ _⟩
  case round =>
    obtain ⟨k, hk, rfl, rfl, HR⟩ := hrel
    by_cases hlt : k + 1 + k < l.length
    · obtain ⟨j, hj⟩ : ∃ j, l.length - 1 - k = j := ⟨_, rfl⟩
      have hjj : (l.length : Int) - 1 - (k : Int) = (j : Int) := by omega
      have hjl : j < l.length := by omega
      have hjl' : (j : Int) < (l.length : Int) := by omega
      have hkl' : (k : Int) < (l.length : Int) := by omega
      have hkj : (k : Int) < (j : Int) := by omega
      have hkjn : k < j := by omega
      rw [hjj]
      obtain ⟨h1, h2, h3⟩ := HR.out
      have e : (rvk l k).length = l.length := rvk_len l k
      have h1' := h1
      rw [← e] at h1'
      have hxk : (rvk l k)[k]? = some (l.getD k zPut) := by rw [rvk_get l k k (by omega), if_neg (by omega)]
      have hxj : (rvk l k)[j]? = some (l.getD j zPut) := by rw [rvk_get l k j hjl, if_neg (by omega)]
      obtain ⟨x0, x1, x2, x3, x4⟩ := put_cells h1' k _ hxk
      obtain ⟨y0, y1, y2, y3, y4⟩ := put_cells h1' j _ hxj
      have fk0 : wr.frozen? ⟨g, k * 5, none⟩ = false := h1.frozenAt _
      have fj0 : wr.frozen? ⟨g, j * 5, none⟩ = false := h1.frozenAt _
      have fk1 : wr.frozen? ⟨g, k * 5 + 1, none⟩ = false := h1.frozenAt _
      have fj1 : wr.frozen? ⟨g, j * 5 + 1, none⟩ = false := h1.frozenAt _
      have fk2 : wr.frozen? ⟨g, k * 5 + 2, none⟩ = false := h1.frozenAt _
      have fj2 : wr.frozen? ⟨g, j * 5 + 2, none⟩ = false := h1.frozenAt _
      have fk3 : wr.frozen? ⟨g, k * 5 + 3, none⟩ = false := h1.frozenAt _
      have fj3 : wr.frozen? ⟨g, j * 5 + 3, none⟩ = false := h1.frozenAt _
      have fk4 : wr.frozen? ⟨g, k * 5 + 4, none⟩ = false := h1.frozenAt _
      have fj4 : wr.frozen? ⟨g, j * 5 + 4, none⟩ = false := h1.frozenAt _
      have hsucc := rvk_succ l k hlt
      rw [hj] at hsucc
      generalize l.getD k zPut = X at *
      generalize l.getD j zPut = Y at *
      obtain ⟨X0, X1, X2, X3, X4⟩ := X
      obtain ⟨Y0, Y1, Y2, Y3, Y4⟩ := Y
      simp only at x0 x1 x2 x3 x4 y0 y1 y2 y3 y4
      have HF : Hid (∀ WF, WF = (wr.setCells g (k * 5) (putV ⟨Y0, Y1, Y2, Y3, Y4⟩).toList).setCells g (j * 5) (putV ⟨X0, X1, X2, X3, X4⟩).toList → (WF.drew.ownsRow B 59 5 (.slice (some ⟨g, 0, none⟩) l.length cap) l.length (putCs (rvk l (k + 1))) ∧ (∀ g', g' ≠ g → WF.drew.heap[g']? = w.heap[g']?) ∧ Below B w WF.drew)) := by
        intro WF hWF
        have hBg : B ≤ g := (row_lt h1 g rfl).1
        have f1 : WF.ownsRow B 59 5 (.slice (some ⟨g, 0, none⟩) l.length cap) l.length (putCs (rvk l (k + 1))) := by
          rw [hWF, ← hsucc]
          exact own_set5 (own_set5 h1 k (by omega) _) j (by rw [List.length_set]; omega) _
        have f2 : ∀ g', g' ≠ g → WF.heap[g']? = w.heap[g']? := fun g' hg => by
          rw [hWF, setCells5_other _ _ _ _ _ hg, setCells5_other _ _ _ _ _ hg, h2 g' hg]
        have f3 : Below B w WF := by
          rw [hWF]
          exact setCells5_below (setCells5_below h3 hBg _ _) hBg _ _
        exact ⟨ownsRow_keep f1 (fun _ _ => rfl), f2, f3.drew⟩
      have ne00 : ¬ k * 5 = j * 5 := off_ne 0 0 hkjn (by decide)
      have nf00 : ¬ j * 5 = k * 5 := off_ne' 0 0 hkjn (by decide)
      have ne01 : ¬ k * 5 = j * 5 + 1 := off_ne 0 1 hkjn (by decide)
      have nf01 : ¬ j * 5 + 1 = k * 5 := off_ne' 0 1 hkjn (by decide)
      have ne02 : ¬ k * 5 = j * 5 + 2 := off_ne 0 2 hkjn (by decide)
      have nf02 : ¬ j * 5 + 2 = k * 5 := off_ne' 0 2 hkjn (by decide)
      have ne03 : ¬ k * 5 = j * 5 + 3 := off_ne 0 3 hkjn (by decide)
      have nf03 : ¬ j * 5 + 3 = k * 5 := off_ne' 0 3 hkjn (by decide)
      have ne04 : ¬ k * 5 = j * 5 + 4 := off_ne 0 4 hkjn (by decide)
      have nf04 : ¬ j * 5 + 4 = k * 5 := off_ne' 0 4 hkjn (by decide)
      have ne10 : ¬ k * 5 + 1 = j * 5 := off_ne 1 0 hkjn (by decide)
      have nf10 : ¬ j * 5 = k * 5 + 1 := off_ne' 1 0 hkjn (by decide)
      have ne11 : ¬ k * 5 + 1 = j * 5 + 1 := off_ne 1 1 hkjn (by decide)
      have nf11 : ¬ j * 5 + 1 = k * 5 + 1 := off_ne' 1 1 hkjn (by decide)
      have ne12 : ¬ k * 5 + 1 = j * 5 + 2 := off_ne 1 2 hkjn (by decide)
      have nf12 : ¬ j * 5 + 2 = k * 5 + 1 := off_ne' 1 2 hkjn (by decide)
      have ne13 : ¬ k * 5 + 1 = j * 5 + 3 := off_ne 1 3 hkjn (by decide)
      have nf13 : ¬ j * 5 + 3 = k * 5 + 1 := off_ne' 1 3 hkjn (by decide)
      have ne14 : ¬ k * 5 + 1 = j * 5 + 4 := off_ne 1 4 hkjn (by decide)
      have nf14 : ¬ j * 5 + 4 = k * 5 + 1 := off_ne' 1 4 hkjn (by decide)
      have ne20 : ¬ k * 5 + 2 = j * 5 := off_ne 2 0 hkjn (by decide)
      have nf20 : ¬ j * 5 = k * 5 + 2 := off_ne' 2 0 hkjn (by decide)
      have ne21 : ¬ k * 5 + 2 = j * 5 + 1 := off_ne 2 1 hkjn (by decide)
      have nf21 : ¬ j * 5 + 1 = k * 5 + 2 := off_ne' 2 1 hkjn (by decide)
      have ne22 : ¬ k * 5 + 2 = j * 5 + 2 := off_ne 2 2 hkjn (by decide)
      have nf22 : ¬ j * 5 + 2 = k * 5 + 2 := off_ne' 2 2 hkjn (by decide)
      have ne23 : ¬ k * 5 + 2 = j * 5 + 3 := off_ne 2 3 hkjn (by decide)
      have nf23 : ¬ j * 5 + 3 = k * 5 + 2 := off_ne' 2 3 hkjn (by decide)
      have ne24 : ¬ k * 5 + 2 = j * 5 + 4 := off_ne 2 4 hkjn (by decide)
      have nf24 : ¬ j * 5 + 4 = k * 5 + 2 := off_ne' 2 4 hkjn (by decide)
      have ne30 : ¬ k * 5 + 3 = j * 5 := off_ne 3 0 hkjn (by decide)
      have nf30 : ¬ j * 5 = k * 5 + 3 := off_ne' 3 0 hkjn (by decide)
      have ne31 : ¬ k * 5 + 3 = j * 5 + 1 := off_ne 3 1 hkjn (by decide)
      have nf31 : ¬ j * 5 + 1 = k * 5 + 3 := off_ne' 3 1 hkjn (by decide)
      have ne32 : ¬ k * 5 + 3 = j * 5 + 2 := off_ne 3 2 hkjn (by decide)
      have nf32 : ¬ j * 5 + 2 = k * 5 + 3 := off_ne' 3 2 hkjn (by decide)
      have ne33 : ¬ k * 5 + 3 = j * 5 + 3 := off_ne 3 3 hkjn (by decide)
      have nf33 : ¬ j * 5 + 3 = k * 5 + 3 := off_ne' 3 3 hkjn (by decide)
      have ne34 : ¬ k * 5 + 3 = j * 5 + 4 := off_ne 3 4 hkjn (by decide)
      have nf34 : ¬ j * 5 + 4 = k * 5 + 3 := off_ne' 3 4 hkjn (by decide)
      have ne40 : ¬ k * 5 + 4 = j * 5 := off_ne 4 0 hkjn (by decide)
      have nf40 : ¬ j * 5 = k * 5 + 4 := off_ne' 4 0 hkjn (by decide)
      have ne41 : ¬ k * 5 + 4 = j * 5 + 1 := off_ne 4 1 hkjn (by decide)
      have nf41 : ¬ j * 5 + 1 = k * 5 + 4 := off_ne' 4 1 hkjn (by decide)
      have ne42 : ¬ k * 5 + 4 = j * 5 + 2 := off_ne 4 2 hkjn (by decide)
      have nf42 : ¬ j * 5 + 2 = k * 5 + 4 := off_ne' 4 2 hkjn (by decide)
      have ne43 : ¬ k * 5 + 4 = j * 5 + 3 := off_ne 4 3 hkjn (by decide)
      have nf43 : ¬ j * 5 + 3 = k * 5 + 4 := off_ne' 4 3 hkjn (by decide)
      have ne44 : ¬ k * 5 + 4 = j * 5 + 4 := off_ne 4 4 hkjn (by decide)
      have nf44 : ¬ j * 5 + 4 = k * 5 + 4 := off_ne' 4 4 hkjn (by decide)
      clear h1 h1' h2 h3 e hxk hxj hlt hsucc
      go_wp2_with fail
      go_region
      all_goals
        go_wp2_with fail
        clear ne00 nf00 ne01 nf01 ne02 nf02 ne03 nf03 ne04 nf04 ne10 nf10 ne11 nf11 ne12 nf12 ne13 nf13 ne14 nf14 ne20 nf20 ne21 nf21 ne22 nf22 ne23 nf23 ne24 nf24 ne30 nf30 ne31 nf31 ne32 nf32 ne33 nf33 ne34 nf34 ne40 nf40 ne41 nf41 ne42 nf42 ne43 nf43 ne44 nf44
        refine ⟨⟨k + 1, by omega, by go_num, by congr 1; omega, ?_⟩, by simp [intOf]; omega⟩
        exact HF.out _ rfl
    · have hkj : ¬ (k : Int) < (l.length : Int) - 1 - (k : Int) := by omega
      have HE := hide (rvk_end l k hlt)
      clear hlt
      go_wp2_with fail
      go_end0
      obtain ⟨h1, h2, h3⟩ := HR.out
      rw [HE.out] at h1
      exact ⟨rfl, h1, h2, h3⟩
set_option maxRecDepth 100000 in
set_option maxHeartbeats 2000000 in
theorem reverse_nil (a : Option Addr) (cap : Nat) (w : World) :
    Calls Tryd.prog 137 #[.slice a 0 cap] w fun e' w' => e' = .returned (.tuple #[]) ∧ w' = w := by
  go_enter Tryd.func137, Tryd.ntmps137
  go_wp2_with fail
  go_loopw [2, 3] (fun i j wr => i = .int .i64 0 ∧ j = .int .i64 (-1) ∧ wr = w) (fun _ _ _ => 0)
  case atStart => exact ⟨rfl, rfl, rfl⟩
  case round =>
    obtain ⟨rfl, rfl, rfl⟩ := hrel
    go_wp2_with fail
    go_end0
    exact ⟨rfl, rfl⟩
end Go.Proofs.YtmmflekajbeamaaDoor

namespace Go.Proofs.YtmmflekajbeamaaDoor
open Go.RowKit Go.Shelf
attribute [local go_sem] Oper.semAt_some

def bvs (l : List Bool) : Array Value := (l.map Value.bool).toArray
theorem BKp.put {n₁ Bs : Nat} {w : World} (hn : n₁ ≤ w.heap.size) (hB : Bs < w.heap.size) (W : World) (l : Nat) (o o' : Obj) (hl : w.heap.size ≤ l) (h : W.heap[l]? = some o) (h1 : o.isCells = false) (h2 : o.isWalk = false) : BKp n₁ Bs W (W.putObj l o') :=
  ⟨belowK_b (w := w) hn W l o o' hl h h1 h2, by
    have := (grownBy_putObj' W l o').block Bs (by have := (Array.getElem?_eq_some_iff.1 h).1; omega) (fun e => by cases e; omega)
    exact this⟩
/-- The puts that have come, in their order. -/
def qsOf (pre : List BkX) : List PutN := (pre.map fun x => x.1.2).reverse
theorem qsOf_snoc (pre : List BkX) (x : BkX) : qsOf (pre ++ [x]) = x.1.2 :: qsOf pre := by simp [qsOf]
theorem qsOf_bkU {ps : List PutN} (hw : ∀ p ∈ ps, okB p) : ∀ k, k ≤ ps.length → qsOf (bkU ps k) = ps.drop (ps.length - k) := by
  intro k
  induction k with
  | zero => intro _; rw [Nat.sub_zero, List.drop_length]; rfl
  | succ k ih =>
    intro hk
    rw [bkU_succ, qsOf_snoc, ih (by omega), bkF_eq hw (by omega)]
    rw [show ps.length - (k + 1) = ps.length - 1 - k by omega, List.drop_eq_getElem_cons (by omega : ps.length - 1 - k < ps.length), show ps.length - 1 - k + 1 = ps.length - k by omega]
theorem cells_own {X Y : World} {row : Option Nat} {g : Nat} {c : Array Value} {t : TypeId} (h : X.heap[g]? = some (.cells c t (0, 0))) (hg : X.grownBy Y row) (hr : ∀ r, row = some r → ∃ o : Obj, X.heap[r]? = some o ∧ o.isCells = false) : Y.heap[g]? = some (.cells c t (0, 0)) := by
  refine (hg.block g (Array.getElem?_eq_some_iff.1 h).1 (fun e => ?_)).trans h
  obtain ⟨o, ho, hc⟩ := hr g e.symm
  rw [h] at ho; cases ho; cases hc
/-- What lies in memory between two rounds. -/
def WoI (w : World) (pa : Option Addr) (pc n : Nat) (pre : List BkX) (W : World) : Prop :=
  (((∃ v, Boxed W (w.heap.size + 1) 61 v ∧ W.ownsRow w.heap.size 59 5 v (idle (qsOf pre)).length (putCs (idle (qsOf pre)).reverse) ∧ True) ∧ W.heap[w.heap.size]? = some (.cells (bvs (ndL (qsOf pre))) 186 (0, 0))) ∧ Boxed W (w.heap.size + 1 + 1) 61 (.slice pa n pc)) ∧ Below w.heap.size w W
theorem nd_own (w : World) : Own (fun (pre : List BkX) (W : World) => W.heap[w.heap.size]? = some (.cells (bvs (ndL (qsOf pre))) 186 (0, 0))) := fun _ _ _ _ hs hg hr => cells_own hs hg hr
theorem bvs_cell {W : World} {g : Nat} {t : TypeId} {l : List Bool} (h : W.heap[g]? = some (.cells (bvs l) t (0, 0))) (i : Nat) (hi : i < l.length) : W.cell? ⟨g, i, none⟩ = some (.bool (l.getD i false)) := by
  rw [cell_row h i, bvs]
  simp [List.getElem?_eq_getElem hi, List.getD_eq_getElem?_getD]
theorem bvs_frozen {W : World} {g : Nat} {t : TypeId} {l : List Bool} (h : W.heap[g]? = some (.cells (bvs l) t (0, 0))) (i : Nat) : W.frozen? ⟨g, i, none⟩ = false := by simp [World.frozen?, h]
theorem bvs_set {W : World} {g : Nat} {t : TypeId} {l : List Bool} (h : W.heap[g]? = some (.cells (bvs l) t (0, 0))) (i : Nat) (b : Bool) : (W.setCell ⟨g, i, none⟩ (.bool b)).heap[g]? = some (.cells (bvs (l.set i b)) t (0, 0)) := by
  obtain ⟨hlt, hk⟩ := Array.getElem?_eq_some_iff.1 h
  show (W.heap.modify g _)[g]? = _
  rw [Array.getElem?_eq_getElem (by rw [Array.size_modify]; exact hlt), Array.getElem_modify_self, hk]
  simp [bvs, List.map_set]
theorem WoI.own (w : World) (pa : Option Addr) (pc n : Nat) (W0 : World) (h : w.heap.size ≤ W0.heap.size) : OwnFrom W0.heap.size (WoI w pa pc n) :=
  OwnFrom.and (OwnFrom.and (OwnFrom.and (Own.from (holdsRow_own w.heap.size (w.heap.size + 1) 61 59 5 (fun pre => (idle (qsOf pre)).length) (fun pre => putCs (idle (qsOf pre)).reverse) (fun _ _ => True)) _) (Own.from (nd_own w) _)) (Own.from (boxed_own _ _ _) _)) (ownFrom_below (Nat.le_refl _) h)

set_option maxRecDepth 100000 in
set_option maxHeartbeats 4000000 in
theorem withoutIdle_in (B : Nat) (pa : Option Addr) (pc : Nat) (ps : List PutN) (w : World) (ho : w.ownsRow B 59 5 (.slice pa ps.length pc) ps.length (putCs ps)) (hl : ps.length ≤ 8) (hw : ∀ p ∈ ps, okB p) :
    CallsIn Fence.wide 6 Tryd.prog 100 #[.slice pa ps.length pc] w fun e' w' => Below w.heap.size w w' ∧ ∃ v, e' = .returned v ∧ w'.ownsRow w.heap.size 59 5 v (idle ps).length (putCs (idle ps)) := by
  refine callsIn_of_wp_marks Tryd.func100 rfl trivial ?_ rfl
  simp only [Tryd.ntmps100, List.size_toArray, List.length_cons, List.length_nil, Nat.reduceAdd, Nat.reduceSub, Array.replicate_succ, Array.replicate_zero, List.push_toArray, List.append_toArray, List.nil_append, List.cons_append]
  gi_wp2
  refine ⟨trivial, (backward_in Fence.wide 5 trivial rfl _ _ _ _).mono ?_⟩
  rintro e w' ⟨rfl, rfl⟩
  gi_wp2
  obtain ⟨W0, hW0⟩ : ∃ W0, ((w.alloc (.cells #[.bool true, .bool true, .bool true, .bool true, .bool true, .bool true, .bool true, .bool true] 186)).alloc (.cells #[.slice none 0 0] 61)).alloc (.cells #[.slice pa ps.length pc] 61) = W0 := ⟨_, rfl⟩
  have hsz : W0.heap.size = w.heap.size + 3 := by rw [← hW0]; simp
  have hB0 : Below w.heap.size w W0 := by rw [← hW0]; exact (((Below.refl _ w).alloc (Nat.le_refl _) _).alloc (by simp) _).alloc (by simp; omega) _
  have bN : W0.heap[w.heap.size]? = some (.cells (bvs (ndL (qsOf []))) 186 (0, 0)) := by
    rw [← hW0, Below.heap_alloc _ _ _ (by simp; omega), Below.heap_alloc _ _ _ (by simp), _root_.Go.heap_alloc_new]
    rfl
  have bL : Boxed W0 (w.heap.size + 1) 61 (.slice none 0 0) := by
    rw [← hW0]
    have := (Boxed.new (w.alloc (.cells #[.bool true, .bool true, .bool true, .bool true, .bool true, .bool true, .bool true, .bool true] 186)) 61 (.slice none 0 0)).alloc (.cells #[.slice pa ps.length pc] 61)
    rw [World.size_alloc] at this
    exact this
  have bS : Boxed W0 (w.heap.size + 1 + 1) 61 (.slice pa ps.length pc) := by
    rw [← hW0]
    have := Boxed.new ((w.alloc (.cells #[.bool true, .bool true, .bool true, .bool true, .bool true, .bool true, .bool true, .bool true] 186)).alloc (.cells #[.slice none 0 0] 61)) 61 (.slice pa ps.length pc)
    simp only [World.size_alloc] at this
    exact this
  rw [hW0]
  clear hW0
  have hO0 := own_grow ho hB0
  refine wpIn_rangeFunc_ownH rfl (by decide) (gf := 160) (lb := #[.pointer (some ⟨w.heap.size + 1 + 1, 0, none⟩)]) rfl trivial (enters_of Tryd.func160 (by kernel_rfl) rfl)
    (backward_stops Fence.wide 5 trivial rfl (by decide) B (w.heap.size + 1 + 1) w.heap.size (.slice pa ps.length pc) ps hw hl W0 (by omega) bS.cell hO0 (fun g hg => (row_lt ho g hg).2)) BKp.trans (BKp.put (by omega) (by omega)) (Below.refl _ _) (fun _ => rfl)
    (WoI w pa pc ps.length) (fun _ _ _ => False) (WoI.own w pa pc ps.length W0 (by omega)) (fun _ _ _ _ _ hs _ _ => hs)
    ⟨⟨⟨⟨_, bL, World.ownsRow_nil _ _ _ _, trivial⟩, bN⟩, bS⟩, hB0⟩
    (fun x a' W => ∃ Bx, w.heap.size + 1 + 1 < Bx ∧ W.heap[Bx]? = some (.cells (putV x.1.2) 59 (0, 0)) ∧ (∃ v, Boxed W (w.heap.size + 1) 61 v ∧ v.ownBlock ≠ some Bx) ∧ a' = { tmps := #[.slice pa ps.length pc, undef, .slice none 0 0, .pointer (some ⟨w.heap.size, 0, none⟩), .pointer (some ⟨w.heap.size + 1, 0, none⟩), undef, .pointer (some ⟨Bx, 0, none⟩), .agg #[.bool true, .bool true, .bool true, .bool true, .bool true, .bool true, .bool true, .bool true], .slice pa ps.length pc, .func (.func 160) #[] #[.pointer (some ⟨w.heap.size + 1 + 1, 0, none⟩)], .int .i64 (x.1.1 : Int), .agg (putV x.1.2), undef, undef, undef, undef, undef, undef, undef, undef, undef, undef, undef, undef, undef, undef, undef, undef, undef, undef, undef, undef, undef, undef, undef, undef, undef, undef, undef], defers := [] })
    (fun x a' _ X Y row hs hg hr => by obtain ⟨Bx, h1, h2, ⟨v, h4, h5⟩, h3⟩ := hs; exact ⟨Bx, h1, cells_own h2 hg (fun r e => (hr r e).2), ⟨v, cells_own h4 hg (fun r e => (hr r e).2), h5⟩, h3⟩)
    ?assign ?body ?done ?stop
  case assign =>
    rintro l pre x W K ⟨⟨⟨⟨v, hv, hrow, _⟩, hnd⟩, hbs⟩, hB1⟩ hK
    obtain ⟨⟨xi, p0, p1, p2, p3, p4⟩, hx⟩ := x
    have hpv : putV ⟨p0, p1, p2, p3, p4⟩ = #[.int .i64 (p0 : Int), .int .i64 (p1 : Int), .int .i64 (p2 : Int), .int .i64 (p3 : Int), .int .i64 (p4 : Int)] := rfl
    have hlS := hbs.lt
    gi_wp2
    exact hK _ _ ((KeepsOthers.alloc _ _).from _) ⟨(Below.refl _ W).alloc hB1.size _, Below.heap_alloc W _ _ hlS⟩ ⟨⟨⟨⟨v, hv.alloc _, hrow.alloc _, trivial⟩, (Below.heap_alloc W _ _ (Array.getElem?_eq_some_iff.1 hnd).1).trans hnd⟩, hbs.alloc _⟩, hB1.alloc hB1.size _⟩ ⟨W.heap.size, hlS, _root_.Go.heap_alloc_new W _, ⟨v, hv.alloc _, fun e => by have := (row_lt hrow _ e).2; omega⟩, rfl⟩
  case body =>
    rintro l pre x a' W hl ⟨r, hr⟩ ⟨⟨⟨⟨v, hv, hrow, _⟩, hnd⟩, hbs⟩, hB1⟩ ⟨Bx, hBx, bX, ⟨v2, hv2', hne⟩, rfl⟩ hlt
    obtain rfl : v2 = v := by
      have := hv2'.symm.trans hv
      simpa using this
    have hqs := qsOf_snoc pre x
    obtain ⟨⟨xi, p0, p1, p2, p3, p4⟩, hx⟩ := x
    have hok := hx
    obtain ⟨k1, k6, d8, a8, b8, kb, _⟩ := hx
    simp only at hqs k1 k6 d8 a8 b8
    have hpv : putV ⟨p0, p1, p2, p3, p4⟩ = #[.int .i64 (p0 : Int), .int .i64 (p1 : Int), .int .i64 (p2 : Int), .int .i64 (p3 : Int), .int .i64 (p4 : Int)] := rfl
    have x0 : W.cell? ⟨Bx, 0, none⟩ = some (.int .i64 (p0 : Int)) := cell_row bX 0
    have x1 : W.cell? ⟨Bx, 1, none⟩ = some (.int .i64 (p1 : Int)) := cell_row bX 1
    have x2 : W.cell? ⟨Bx, 2, none⟩ = some (.int .i64 (p2 : Int)) := cell_row bX 2
    have x3 : W.cell? ⟨Bx, 3, none⟩ = some (.int .i64 (p3 : Int)) := cell_row bX 3
    have x4 : W.cell? ⟨Bx, 4, none⟩ = some (.int .i64 (p4 : Int)) := cell_row bX 4
    have cn := bvs_cell hnd p1 (by rw [ndL_len]; exact d8)
    rw [ndL_get _ _ d8] at cn
    have d8' : (p1 : Int) < 8 := by omega
    have a8' : (p2 : Int) < 8 := by omega
    have b8' : (p3 : Int) < 8 := by omega
    cases hq : nd (qsOf pre) p1
    · rw [hq] at cn
      gi_wp2
      refine ⟨KeepsFrom.refl _ _, BKp.refl _ _ _, ⟨⟨⟨v2, hv, ?_, trivial⟩, ?_⟩, hbs⟩, hB1⟩
      · rw [hqs, idle, if_neg (by show ¬ nd (qsOf pre) p1 = true; rw [hq]; decide)]
        exact hrow
      · rw [hqs, ndL_skip (show nd (qsOf pre) (⟨p0, p1, p2, p3, p4⟩ : PutN).d = false from hq)]
        exact hnd
    · rw [hq] at cn
      have hc := hv.cell
      have hidl : (idle (qsOf pre)).length ≤ 8 := by
        have h1 := idle_len (qsOf pre)
        have h2 : (qsOf pre).length = pre.length := by simp [qsOf]
        omega
      have hkeep := ndL_keep (ps := qsOf pre) hok hq
      have hidn : idle (qsOf (pre ++ [⟨(xi, ⟨p0, p1, p2, p3, p4⟩), hok⟩])) = ⟨p0, p1, p2, p3, p4⟩ :: idle (qsOf pre) := by
        rw [hqs, idle, if_pos (show nd (qsOf pre) (⟨p0, p1, p2, p3, p4⟩ : PutN).d = true from hq)]
      have hWz := hB1.size
      have hlB := (Array.getElem?_eq_some_iff.1 bX).1
      have hlN := (Array.getElem?_eq_some_iff.1 hnd).1
      have n1 : Bx ≠ w.heap.size := by omega
      have n2 : Bx ≠ w.heap.size + 1 := by omega
      have n3 : w.heap.size + 1 ≠ w.heap.size := by omega
      have HApp : Hid (∀ w1 g' cap' xs, w1.ownsRow w.heap.size 59 5 (.slice (some ⟨g', 0, none⟩) ((idle (qsOf pre)).length + 1) cap') ((idle (qsOf pre)).length + 1) (putCs (idle (qsOf pre)).reverse ++ [.int .i64 (p0 : Int), .int .i64 (p1 : Int), .int .i64 (p2 : Int), .int .i64 (p3 : Int), .int .i64 (p4 : Int)]) → (W.alloc xs).grownBy w1 v2.ownBlock →
          (∀ j, w1.cell? ⟨Bx, j, none⟩ = W.cell? ⟨Bx, j, none⟩) ∧ w1.heap[w.heap.size]? = some (.cells (bvs (ndL (qsOf pre))) 186 (0, 0)) ∧ (∀ W', W'.heap[w.heap.size]? = some (.cells (bvs (ndL (⟨p0, p1, p2, p3, p4⟩ :: qsOf pre))) 186 (0, 0)) → (∀ g, g ≠ w.heap.size → W'.heap[g]? = (w1.setCell ⟨w.heap.size + 1, 0, none⟩ (.slice (some ⟨g', 0, none⟩) ((idle (qsOf pre)).length + 1) cap')).heap[g]?) → Below w.heap.size w1 W' → KeepsOthers (w1.setCell ⟨w.heap.size + 1, 0, none⟩ (.slice (some ⟨g', 0, none⟩) ((idle (qsOf pre)).length + 1) cap')) W' → KeepsFrom W0.heap.size W W' ∧ BKp w.heap.size (w.heap.size + 1 + 1) W W' ∧ WoI w pa pc ps.length (pre ++ [⟨(xi, ⟨p0, p1, p2, p3, p4⟩), hok⟩]) W')) := by
        intro w1 g' cap' xs hown' hgrow
        obtain ⟨hv1, hv2, hr2, hk2, hb2⟩ := hv.appended (by decide) hrow hB1.size (by omega) hown' hgrow
        have hN1 : w1.heap[w.heap.size]? = some (.cells (bvs (ndL (qsOf pre))) 186 (0, 0)) := by
          refine ((hgrow.block _ (by rw [size_alloc1]; omega) (fun e => ?_)).trans (Below.heap_alloc W _ _ hlN)).trans hnd
          obtain ⟨cur, hcur⟩ := ownsRow_kind hrow _ e.symm
          rw [hnd] at hcur
          cases hcur
        have hS1 : Boxed w1 (w.heap.size + 1 + 1) 61 (.slice pa ps.length pc) := (hbs.alloc xs).kept hgrow (hbs.not_row (by decide) hrow)
        refine ⟨fun j => ?_, hN1, fun W' q1 q2 q3 q4 => ?_⟩
        · refine cell_heap j ((hgrow.block Bx (by rw [size_alloc1]; omega) (fun e => hne e.symm)).trans (Below.heap_alloc W _ _ hlB))
        · have hS' : Boxed W' (w.heap.size + 1 + 1) 61 (.slice pa ps.length pc) := (q2 _ (by omega)).trans ((heap_set_other _ _ (by omega)).trans hS1)
          have hbW : Below w.heap.size W W' := by
            have h1 : Below w.heap.size W w1 := ((Below.refl _ W).alloc hWz _).grown hgrow (by rw [size_alloc1]; omega) (fun q hq => (row_lt hrow q hq).1)
            exact h1.trans q3
          refine ⟨((hk2.trans q4).from _), ⟨hbW, hS'.trans hbs.symm⟩, ⟨⟨⟨_, (q2 _ (by omega)).trans hv2, ?_, trivial⟩, ?_⟩, hS'⟩, hB1.trans hbW⟩
          · rw [hidn]
            have : putCs (⟨p0, p1, p2, p3, p4⟩ :: idle (qsOf pre)).reverse = putCs (idle (qsOf pre)).reverse ++ [.int .i64 (p0 : Int), .int .i64 (p1 : Int), .int .i64 (p2 : Int), .int .i64 (p3 : Int), .int .i64 (p4 : Int)] := by
              rw [List.reverse_cons, putCs_snoc]; rfl
            rw [this]
            refine ownsRow_keep hr2 (fun g hg => q2 g (fun e => ?_))
            subst e
            obtain ⟨cur, hcur⟩ := ownsRow_kind hr2 _ hg
            rw [show (w1.setCell ⟨w.heap.size + 1, 0, none⟩ _).heap[w.heap.size]? = _ from (heap_set_other _ _ (by omega)).trans hN1] at hcur
            cases hcur
          · rw [hqs]
            exact q1
      obtain ⟨va, vc, hvv⟩ := owns_len hrow
      subst hvv
      have hIn := infoPut
      obtain ⟨inf, hinf, hz, hsz1, hby⟩ := hIn
      have hkd : p0 = 1 ∨ p0 = 6 ∨ (2 ≤ p0 ∧ p0 ≤ 5) := by omega
      rcases hkd with rfl | rfl | ⟨h2, h5⟩
      · have hA : arB 1 = false := by decide
        have HNa : Hid (ndA ⟨1, p1, p2, p3, p4⟩ (ndL (qsOf pre)) = (ndL (qsOf pre)).set p1 false) := by unfold Hid ndA arN; simp
        have HKe := hide hkeep
        clear hkeep
        gi_wp2_with (gi_at_builtin; refine wpListIn_append_own _ rfl _ _ 61 rfl w.heap.size 59 inf _ 5 40 Tryd.underlying61 hinf hz hsz1 hby rfl (by decide) _ _ _ rfl (hrow.alloc _) ⟨W.heap.size, 0, none⟩ 1 1 [.int .i64 1, .int .i64 (p1 : Int), .int .i64 (p2 : Int), .int .i64 (p3 : Int), .int .i64 (p4 : Int)] rfl rfl (World.news_of_block (_root_.Go.heap_alloc_new W _)) (fun u hu => by simp at hu; rcases hu with rfl | rfl | rfl | rfl | rfl <;> rfl) (by unfold maxLen; omega) (by omega) (by rw [size_alloc1]; omega) ?_; intro v' w1 hown' hgrow _; obtain ⟨g', cap', rfl⟩ := ownsRow_succ hown'; obtain ⟨hb0, hN1, HEnd⟩ := HApp.out w1 g' cap' _ hown' hgrow; have y0 := (hb0 0).trans x0; have y1 := (hb0 1).trans x1; have y2 := (hb0 2).trans x2; have y3 := (hb0 3).trans x3; have hc1 : w1.cell? ⟨w.heap.size + 1, 0, none⟩ = some (.slice va (idle (qsOf pre)).length vc) := (hv.appended (by decide) hrow hB1.size (by omega) hown' hgrow).1.cell; have hf1 : w1.frozen? ⟨w.heap.size + 1, 0, none⟩ = false := (hv.appended (by decide) hrow hB1.size (by omega) hown' hgrow).1.frozen; have cn1 := bvs_cell hN1 p1 (by rw [ndL_len]; exact d8); have fn1 := bvs_frozen hN1 p1; have cn2 := bvs_cell hN1 p2 (by rw [ndL_len]; exact a8); have fn2 := bvs_frozen hN1 p2; have HE := hide HEnd; have HN1 := hide hN1; clear hb0 HEnd hN1 hgrow hown')
        refine ⟨trivial, (CallsIn.inRound l (callsIn_wide.2 (isArith_any 1 _))).mono ?_⟩
        rintro e w' ⟨rfl, hw'⟩
        obtain rfl := hw'.symm
        gi_wp2
        refine HE.out _ ?_ (fun g hg => heap_set_other _ _ hg) (((Below.refl _ _).setCell (p := ⟨w.heap.size + 1, 0, none⟩) (Nat.le_succ _) _).setCell (p := ⟨w.heap.size, p1, none⟩) (Nat.le_refl _) _) (KeepsOthers.setCell _ _ _)
        rw [HKe.out, HNa.out]
        exact bvs_set ((heap_set_other _ _ (by omega)).trans HN1.out) p1 false
      · have hA : arB 6 = false := by decide
        have HNa : Hid (ndA ⟨6, p1, p2, p3, p4⟩ (ndL (qsOf pre)) = ((ndL (qsOf pre)).set p1 false).set p2 true) := by unfold Hid ndA arN; simp
        have HKe := hide hkeep
        clear hkeep
        by_cases hpa : p2 = p1
        · subst hpa
          gi_wp2_with (gi_at_builtin; refine wpListIn_append_own _ rfl _ _ 61 rfl w.heap.size 59 inf _ 5 40 Tryd.underlying61 hinf hz hsz1 hby rfl (by decide) _ _ _ rfl (hrow.alloc _) ⟨W.heap.size, 0, none⟩ 1 1 [.int .i64 6, .int .i64 (p2 : Int), .int .i64 (p2 : Int), .int .i64 (p3 : Int), .int .i64 (p4 : Int)] rfl rfl (World.news_of_block (_root_.Go.heap_alloc_new W _)) (fun u hu => by simp at hu; rcases hu with rfl | rfl | rfl | rfl | rfl <;> rfl) (by unfold maxLen; omega) (by omega) (by rw [size_alloc1]; omega) ?_; intro v' w1 hown' hgrow _; obtain ⟨g', cap', rfl⟩ := ownsRow_succ hown'; obtain ⟨hb0, hN1, HEnd⟩ := HApp.out w1 g' cap' _ hown' hgrow; have y0 := (hb0 0).trans x0; have y1 := (hb0 1).trans x1; have y2 := (hb0 2).trans x2; have y3 := (hb0 3).trans x3; have hc1 : w1.cell? ⟨w.heap.size + 1, 0, none⟩ = some (.slice va (idle (qsOf pre)).length vc) := (hv.appended (by decide) hrow hB1.size (by omega) hown' hgrow).1.cell; have hf1 : w1.frozen? ⟨w.heap.size + 1, 0, none⟩ = false := (hv.appended (by decide) hrow hB1.size (by omega) hown' hgrow).1.frozen; have cn1 := bvs_cell hN1 p2 (by rw [ndL_len]; exact d8); have fn1 := bvs_frozen hN1 p2; have cn2 := bvs_cell hN1 p2 (by rw [ndL_len]; exact a8); have fn2 := bvs_frozen hN1 p2; have HE := hide HEnd; have HN1 := hide hN1; clear hb0 HEnd hN1 hgrow hown')
          refine ⟨trivial, (CallsIn.inRound l (callsIn_wide.2 (isArith_any 6 _))).mono ?_⟩
          rintro e w' ⟨rfl, hw'⟩
          obtain rfl := hw'.symm
          gi_wp2
          refine HE.out _ ?_ (fun g hg => (heap_set_other _ _ hg).trans (heap_set_other _ _ hg)) ((((Below.refl _ _).setCell (p := ⟨w.heap.size + 1, 0, none⟩) (Nat.le_succ _) _).setCell (p := ⟨w.heap.size, p2, none⟩) (Nat.le_refl _) _).setCell (p := ⟨w.heap.size, p2, none⟩) (Nat.le_refl _) _) ((KeepsOthers.setCell _ _ _).trans (KeepsOthers.setCell _ _ _))
          rw [HKe.out, HNa.out]
          exact bvs_set (bvs_set ((heap_set_other _ _ (by omega)).trans HN1.out) p2 false) p2 true
        · have hpa' : ¬ p1 = p2 := fun e => hpa e.symm
          gi_wp2_with (gi_at_builtin; refine wpListIn_append_own _ rfl _ _ 61 rfl w.heap.size 59 inf _ 5 40 Tryd.underlying61 hinf hz hsz1 hby rfl (by decide) _ _ _ rfl (hrow.alloc _) ⟨W.heap.size, 0, none⟩ 1 1 [.int .i64 6, .int .i64 (p1 : Int), .int .i64 (p2 : Int), .int .i64 (p3 : Int), .int .i64 (p4 : Int)] rfl rfl (World.news_of_block (_root_.Go.heap_alloc_new W _)) (fun u hu => by simp at hu; rcases hu with rfl | rfl | rfl | rfl | rfl <;> rfl) (by unfold maxLen; omega) (by omega) (by rw [size_alloc1]; omega) ?_; intro v' w1 hown' hgrow _; obtain ⟨g', cap', rfl⟩ := ownsRow_succ hown'; obtain ⟨hb0, hN1, HEnd⟩ := HApp.out w1 g' cap' _ hown' hgrow; have y0 := (hb0 0).trans x0; have y1 := (hb0 1).trans x1; have y2 := (hb0 2).trans x2; have y3 := (hb0 3).trans x3; have hc1 : w1.cell? ⟨w.heap.size + 1, 0, none⟩ = some (.slice va (idle (qsOf pre)).length vc) := (hv.appended (by decide) hrow hB1.size (by omega) hown' hgrow).1.cell; have hf1 : w1.frozen? ⟨w.heap.size + 1, 0, none⟩ = false := (hv.appended (by decide) hrow hB1.size (by omega) hown' hgrow).1.frozen; have cn1 := bvs_cell hN1 p1 (by rw [ndL_len]; exact d8); have fn1 := bvs_frozen hN1 p1; have cn2 := bvs_cell hN1 p2 (by rw [ndL_len]; exact a8); have fn2 := bvs_frozen hN1 p2; have HE := hide HEnd; have HN1 := hide hN1; clear hb0 HEnd hN1 hgrow hown')
          refine ⟨trivial, (CallsIn.inRound l (callsIn_wide.2 (isArith_any 6 _))).mono ?_⟩
          rintro e w' ⟨rfl, hw'⟩
          obtain rfl := hw'.symm
          gi_wp2
          refine HE.out _ ?_ (fun g hg => (heap_set_other _ _ hg).trans (heap_set_other _ _ hg)) ((((Below.refl _ _).setCell (p := ⟨w.heap.size + 1, 0, none⟩) (Nat.le_succ _) _).setCell (p := ⟨w.heap.size, p1, none⟩) (Nat.le_refl _) _).setCell (p := ⟨w.heap.size, p2, none⟩) (Nat.le_refl _) _) ((KeepsOthers.setCell _ _ _).trans (KeepsOthers.setCell _ _ _))
          rw [HKe.out, HNa.out]
          exact bvs_set (bvs_set ((heap_set_other _ _ (by omega)).trans HN1.out) p1 false) p2 true
      · have hA : arB (p0 : Int) = true := by unfold arB; rw [decide_eq_true_eq]; omega
        have hk1 : ((p0 : Int) == 1) = false := by rw [beq_eq_false_iff_ne]; omega
        have HNa : Hid (ndA ⟨p0, p1, p2, p3, p4⟩ (ndL (qsOf pre)) = (((ndL (qsOf pre)).set p1 false).set p2 true).set p3 true) := by
          unfold Hid ndA arN
          rw [if_pos (decide_eq_true ⟨h2, h5⟩), if_neg (show ¬ p0 = 1 by omega)]
        have HKe := hide hkeep
        clear hkeep
        by_cases hpa : p2 = p1
        · subst hpa
          gi_wp2_with (gi_at_builtin; refine wpListIn_append_own _ rfl _ _ 61 rfl w.heap.size 59 inf _ 5 40 Tryd.underlying61 hinf hz hsz1 hby rfl (by decide) _ _ _ rfl (hrow.alloc _) ⟨W.heap.size, 0, none⟩ 1 1 [.int .i64 (p0 : Int), .int .i64 (p2 : Int), .int .i64 (p2 : Int), .int .i64 (p3 : Int), .int .i64 (p4 : Int)] rfl rfl (World.news_of_block (_root_.Go.heap_alloc_new W _)) (fun u hu => by simp at hu; rcases hu with rfl | rfl | rfl | rfl | rfl <;> rfl) (by unfold maxLen; omega) (by omega) (by rw [size_alloc1]; omega) ?_; intro v' w1 hown' hgrow _; obtain ⟨g', cap', rfl⟩ := ownsRow_succ hown'; obtain ⟨hb0, hN1, HEnd⟩ := HApp.out w1 g' cap' _ hown' hgrow; have y0 := (hb0 0).trans x0; have y1 := (hb0 1).trans x1; have y2 := (hb0 2).trans x2; have y3 := (hb0 3).trans x3; have hc1 : w1.cell? ⟨w.heap.size + 1, 0, none⟩ = some (.slice va (idle (qsOf pre)).length vc) := (hv.appended (by decide) hrow hB1.size (by omega) hown' hgrow).1.cell; have hf1 : w1.frozen? ⟨w.heap.size + 1, 0, none⟩ = false := (hv.appended (by decide) hrow hB1.size (by omega) hown' hgrow).1.frozen; have cn1 := bvs_cell hN1 p2 (by rw [ndL_len]; exact d8); have fn1 := bvs_frozen hN1 p2; have cn2 := bvs_cell hN1 p2 (by rw [ndL_len]; exact a8); have fn2 := bvs_frozen hN1 p2; have HE := hide HEnd; have HN1 := hide hN1; clear hb0 HEnd hN1 hgrow hown')
          refine ⟨trivial, (CallsIn.inRound l (callsIn_wide.2 (isArith_any (p0 : Int) _))).mono ?_⟩
          rintro e W3 ⟨rfl, hW3⟩
          have hN3 : W3.heap[w.heap.size]? = some (.cells (bvs (((ndL (qsOf pre)).set p2 false).set p2 true)) 186 (0, 0)) := by rw [hW3]; exact bvs_set (bvs_set ((heap_set_other _ _ (by omega)).trans HN1.out) p2 false) p2 true
          have z3 : W3.cell? ⟨Bx, 3, none⟩ = some (.int .i64 (p3 : Int)) := by rw [hW3]; exact (cell_heap 3 ((heap_set_other _ _ n1).trans ((heap_set_other _ _ n1).trans (heap_set_other _ _ n2)))).trans y3
          have cn3 := bvs_cell hN3 p3 (by rw [List.length_set, List.length_set, ndL_len]; exact b8)
          have fn3 := bvs_frozen hN3 p3
          have HW3 := hide hW3; have HN3 := hide hN3
          clear hW3 hN3 y0 y1 y2 y3 cn1 fn1 cn2 fn2 hc1 hf1
          gi_wp2
          refine HE.out _ ?_ (fun g hg => (heap_set_other _ _ hg).trans (by rw [HW3.out]; exact (heap_set_other _ _ hg).trans (heap_set_other _ _ hg))) (Below.setCell (p := ⟨w.heap.size, p3, none⟩) (by rw [HW3.out]; exact (((Below.refl _ _).setCell (p := ⟨w.heap.size + 1, 0, none⟩) (Nat.le_succ _) _).setCell (p := ⟨w.heap.size, p2, none⟩) (Nat.le_refl _) _).setCell (p := ⟨w.heap.size, p2, none⟩) (Nat.le_refl _) _) (Nat.le_refl _) _) ((by rw [HW3.out]; exact (KeepsOthers.setCell _ _ _).trans (KeepsOthers.setCell _ _ _) : KeepsOthers _ W3).trans (KeepsOthers.setCell _ _ _))
          rw [HKe.out, HNa.out]
          exact bvs_set HN3.out p3 true
        · have hpa' : ¬ p1 = p2 := fun e => hpa e.symm
          gi_wp2_with (gi_at_builtin; refine wpListIn_append_own _ rfl _ _ 61 rfl w.heap.size 59 inf _ 5 40 Tryd.underlying61 hinf hz hsz1 hby rfl (by decide) _ _ _ rfl (hrow.alloc _) ⟨W.heap.size, 0, none⟩ 1 1 [.int .i64 (p0 : Int), .int .i64 (p1 : Int), .int .i64 (p2 : Int), .int .i64 (p3 : Int), .int .i64 (p4 : Int)] rfl rfl (World.news_of_block (_root_.Go.heap_alloc_new W _)) (fun u hu => by simp at hu; rcases hu with rfl | rfl | rfl | rfl | rfl <;> rfl) (by unfold maxLen; omega) (by omega) (by rw [size_alloc1]; omega) ?_; intro v' w1 hown' hgrow _; obtain ⟨g', cap', rfl⟩ := ownsRow_succ hown'; obtain ⟨hb0, hN1, HEnd⟩ := HApp.out w1 g' cap' _ hown' hgrow; have y0 := (hb0 0).trans x0; have y1 := (hb0 1).trans x1; have y2 := (hb0 2).trans x2; have y3 := (hb0 3).trans x3; have hc1 : w1.cell? ⟨w.heap.size + 1, 0, none⟩ = some (.slice va (idle (qsOf pre)).length vc) := (hv.appended (by decide) hrow hB1.size (by omega) hown' hgrow).1.cell; have hf1 : w1.frozen? ⟨w.heap.size + 1, 0, none⟩ = false := (hv.appended (by decide) hrow hB1.size (by omega) hown' hgrow).1.frozen; have cn1 := bvs_cell hN1 p1 (by rw [ndL_len]; exact d8); have fn1 := bvs_frozen hN1 p1; have cn2 := bvs_cell hN1 p2 (by rw [ndL_len]; exact a8); have fn2 := bvs_frozen hN1 p2; have HE := hide HEnd; have HN1 := hide hN1; clear hb0 HEnd hN1 hgrow hown')
          refine ⟨trivial, (CallsIn.inRound l (callsIn_wide.2 (isArith_any (p0 : Int) _))).mono ?_⟩
          rintro e W3 ⟨rfl, hW3⟩
          have hN3 : W3.heap[w.heap.size]? = some (.cells (bvs (((ndL (qsOf pre)).set p1 false).set p2 true)) 186 (0, 0)) := by rw [hW3]; exact bvs_set (bvs_set ((heap_set_other _ _ (by omega)).trans HN1.out) p1 false) p2 true
          have z3 : W3.cell? ⟨Bx, 3, none⟩ = some (.int .i64 (p3 : Int)) := by rw [hW3]; exact (cell_heap 3 ((heap_set_other _ _ n1).trans ((heap_set_other _ _ n1).trans (heap_set_other _ _ n2)))).trans y3
          have cn3 := bvs_cell hN3 p3 (by rw [List.length_set, List.length_set, ndL_len]; exact b8)
          have fn3 := bvs_frozen hN3 p3
          have HW3 := hide hW3; have HN3 := hide hN3
          clear hW3 hN3 y0 y1 y2 y3 cn1 fn1 cn2 fn2 hc1 hf1
          gi_wp2
          refine HE.out _ ?_ (fun g hg => (heap_set_other _ _ hg).trans (by rw [HW3.out]; exact (heap_set_other _ _ hg).trans (heap_set_other _ _ hg))) (Below.setCell (p := ⟨w.heap.size, p3, none⟩) (by rw [HW3.out]; exact (((Below.refl _ _).setCell (p := ⟨w.heap.size + 1, 0, none⟩) (Nat.le_succ _) _).setCell (p := ⟨w.heap.size, p1, none⟩) (Nat.le_refl _) _).setCell (p := ⟨w.heap.size, p2, none⟩) (Nat.le_refl _) _) (Nat.le_refl _) _) ((by rw [HW3.out]; exact (KeepsOthers.setCell _ _ _).trans (KeepsOthers.setCell _ _ _) : KeepsOthers _ W3).trans (KeepsOthers.setCell _ _ _))
          rw [HKe.out, HNa.out]
          exact bvs_set HN3.out p3 true
  case done =>
    rintro D ys W hD rfl ⟨⟨⟨⟨v, hv, hrow, _⟩, hnd⟩, hbs⟩, hB1⟩ hK
    have hqq : qsOf (bkU ps ps.length) = ps := by rw [qsOf_bkU hw _ (Nat.le_refl _), Nat.sub_self, List.drop_zero]
    rw [hqq] at hrow
    have hc := hv.cell
    have hll : (idle ps).length ≤ 8 := Nat.le_trans (idle_len ps) hl
    obtain ⟨va, vc, rfl⟩ := owns_len hrow
    have hlr : (idle ps).reverse.length = (idle ps).length := List.length_reverse
    by_cases h0 : (idle ps).length = 0
    · rw [h0] at hc hv hrow
      have hi0 : idle ps = [] := List.length_eq_zero_iff.1 h0
      rw [hi0] at hrow
      have HI0 := hide hi0; have HRw := hide hrow
      clear h0 hlr hll hi0 hqq hrow
      gi_wp2
      refine ⟨trivial, (callsIn_wide.2 (reverse_nil va vc _)).mono ?_⟩
      rintro e w' ⟨rfl, hw'⟩
      obtain rfl := hw'.symm
      gi_wp2
      refine ⟨by simp, .inl ?_⟩
      refine ⟨_, _, rfl, run_takeDeferred hK, ?_⟩
      refine ⟨_, results_tmp rfl _ _ _, ?_⟩
      have hDw : w.heap.size ≤ D := by omega
      have hBe : Below w.heap.size w (W.putObj D (.deferred none)) := hB1.trans (belowK_b (w := w) (Nat.le_refl _) W D _ _ hDw hK rfl rfl)
      refine ⟨hBe, _, rfl, ?_⟩
      rw [HI0.out]
      exact ownsRow_putObj HRw.out _ hK rfl
    · obtain ⟨g, cap, hform, hBg, hgl⟩ := hrow.form (by omega)
      cases hform
      have hRv := reverse_any w.heap.size g vc (idle ps).reverse W (by rw [hlr]; exact hrow) (by rw [hlr]; exact hll)
      rw [List.reverse_reverse, hlr] at hRv
      have hgc : ∃ cur, W.heap[g]? = some (.cells cur 59 (0, 0)) := ownsRow_kind hrow g rfl
      obtain ⟨cur, hcur⟩ := hgc
      have nD : D ≠ g := fun e => by rw [e, hcur] at hK; cases hK
      have nB : w.heap.size + 1 ≠ g := fun e => by
        have := hv
        unfold Boxed at this
        rw [e, hcur] at this
        cases this
      have HRv := hide hRv; have HRw := hide hrow
      have hDw : w.heap.size ≤ D := by omega
      generalize hn : (idle ps).length = n at *
      have HNn := hide hn
      clear h0 hlr hll hqq hrow hRv hn hBg hgl hcur
      gi_wp2
      refine ⟨trivial, (callsIn_wide.2 HRv.out).mono ?_⟩
      rintro e w' ⟨rfl, r1, r2, r3⟩
      have hc' : w'.cell? ⟨w.heap.size + 1, 0, none⟩ = some (.slice (some ⟨g, 0, none⟩) n vc) := (cell_heap 0 (r2 _ nB)).trans hc
      have hK' := (r2 D nD).trans hK
      have HR1 := hide r1
      have hBe : Below w.heap.size w (w'.putObj D (.deferred none)) := (hB1.trans r3).trans (belowK_b (w := w) (Nat.le_refl _) w' D _ _ hDw hK' rfl rfl)
      have HBe := hide hBe
      clear r1 r2 r3 hc hK hBe
      gi_wp2
      refine ⟨by simp, .inl ?_⟩
      refine ⟨_, _, rfl, run_takeDeferred hK', ?_⟩
      refine ⟨_, results_tmp rfl _ _ _, ?_⟩
      refine ⟨HBe.out, _, rfl, ?_⟩
      rw [HNn.out]
      exact ownsRow_putObj HR1.out _ hK' rfl
  case stop =>
    rintro D c pre W _ _ h _
    exact h.elim
end Go.Proofs.YtmmflekajbeamaaDoor
