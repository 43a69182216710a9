/-
  Translates: slices.Reverse over puts.
-/
import Derived.Test.YtmmflekajbeamaaDoorT19
namespace Go.Proofs.YtmmflekajbeamaaDoor
open Go.RowKit

/-- The list when k pairs have been changed. -/
def rvk (l : List PutN) (k : Nat) : List PutN := (List.range l.length).map fun m => if m < k ∨ l.length - k ≤ m then l.getD (l.length - 1 - m) zPut else l.getD m zPut
theorem rvk_len (l : List PutN) (k : Nat) : (rvk l k).length = l.length := by simp [rvk]
theorem rvk_get (l : List PutN) (k m : Nat) (h : m < l.length) : (rvk l k)[m]? = some (if m < k ∨ l.length - k ≤ m then l.getD (l.length - 1 - m) zPut else l.getD m zPut) := by
  unfold rvk
  rw [List.getElem?_map, List.getElem?_range h]; rfl
theorem getD_z {l : List PutN} {m : Nat} (h : m < l.length) : l[m]? = some (l.getD m zPut) := by rw [List.getD_eq_getElem?_getD, List.getElem?_eq_getElem h]; rfl
theorem rvk_zero (l : List PutN) : rvk l 0 = l := by
  apply List.ext_getElem?
  intro m
  by_cases h : m < l.length
  · rw [rvk_get l 0 m h, if_neg (by omega), getD_z h]
  · rw [List.getElem?_eq_none (by rw [rvk_len]; omega), List.getElem?_eq_none (by omega)]
theorem rvk_end (l : List PutN) (k : Nat) (h : ¬ k + 1 + k < l.length) : rvk l k = l.reverse := by
  apply List.ext_getElem?
  intro m
  by_cases hm : m < l.length
  · rw [rvk_get l k m hm, List.getElem?_reverse hm, getD_z (by omega)]
    by_cases hc : m < k ∨ l.length - k ≤ m
    · rw [if_pos hc]
    · rw [if_neg hc, show l.length - 1 - m = m by omega]
  · rw [List.getElem?_eq_none (by rw [rvk_len]; omega), List.getElem?_eq_none (by simp; omega)]
theorem rvk_succ (l : List PutN) (k : Nat) (h : k + 1 + k < l.length) : ((rvk l k).set k (l.getD (l.length - 1 - k) zPut)).set (l.length - 1 - k) (l.getD k zPut) = rvk l (k + 1) := by
  apply List.ext_getElem?
  intro m
  rw [List.getElem?_set, List.getElem?_set, List.length_set, rvk_len]
  by_cases hm : m < l.length
  · rw [rvk_get l (k + 1) m hm]
    by_cases h1 : l.length - 1 - k = m
    · rw [if_pos h1, if_pos (by omega), if_pos (by omega), show l.length - 1 - m = k by omega]
    · rw [if_neg h1]
      by_cases h2 : k = m
      · rw [if_pos h2, if_pos (by omega), if_pos (by omega), h2]
      · rw [if_neg h2, rvk_get l k m hm]
        by_cases hc : m < k ∨ l.length - k ≤ m
        · rw [if_pos hc, if_pos (by omega)]
        · rw [if_neg hc, if_neg (by omega)]
  · rw [if_neg (by omega), if_neg (by omega), List.getElem?_eq_none (by rw [rvk_len]; omega), List.getElem?_eq_none (by rw [rvk_len]; omega)]

def set5V (z : List Value) (o : Nat) (q : PutN) : List Value := ((((z.set o (.int .i64 (q.kind : Int))).set (o + 1) (.int .i64 (q.d : Int))).set (o + 1 + 1) (.int .i64 (q.a : Int))).set (o + 1 + 1 + 1) (.int .i64 (q.b : Int))).set (o + 1 + 1 + 1 + 1) (.int .i64 (q.k : Int))
theorem set5V_app (a z : List Value) (o : Nat) (q : PutN) : set5V (a ++ z) (o + a.length) q = a ++ set5V z o q := by
  unfold set5V
  rw [List.set_append_right _ _ (by omega), List.set_append_right _ _ (by omega), List.set_append_right _ _ (by omega), List.set_append_right _ _ (by omega), List.set_append_right _ _ (by omega)]
  simp only [Nat.add_sub_cancel]
  rw [show o + a.length + 1 - a.length = o + 1 by omega, show o + a.length + 1 + 1 - a.length = o + 1 + 1 by omega, show o + a.length + 1 + 1 + 1 - a.length = o + 1 + 1 + 1 by omega, show o + a.length + 1 + 1 + 1 + 1 - a.length = o + 1 + 1 + 1 + 1 by omega]
theorem putCs_set (q : PutN) : ∀ (l : List PutN) (d : Nat), d < l.length → set5V (putCs l) (d * 5) q = putCs (l.set d q)
  | [], d, h => by simp at h
  | p :: l, 0, _ => rfl
  | p :: l, d + 1, h => by
    have e1 : putCs (p :: l) = (putV p).toList ++ putCs l := by simp [putCs]
    have e2 : putCs ((p :: l).set (d + 1) q) = (putV p).toList ++ putCs (l.set d q) := by simp [putCs]
    rw [e1, e2, show (d + 1) * 5 = d * 5 + (putV p).toList.length by rw [Nat.succ_mul]; rfl, set5V_app, putCs_set q l d (by simpa using h)]
theorem own_set5 {w : World} {B g n cap : Nat} {l : List PutN} (h : w.ownsRow B 59 5 (.slice (some ⟨g, 0, none⟩) n cap) n (putCs l)) (d : Nat) (hd : d < l.length) (q : PutN) : (w.setCells g (d * 5) (putV q).toList).ownsRow B 59 5 (.slice (some ⟨g, 0, none⟩) n cap) n (putCs (l.set d q)) := by
  rw [setCells5, ← putCs_set q l d hd]
  exact (((((h.stored (d * 5) _).1.stored (d * 5 + 1) _).1.stored (d * 5 + 1 + 1) _).1.stored (d * 5 + 1 + 1 + 1) _).1.stored (d * 5 + 1 + 1 + 1 + 1) _).1

theorem off_ne {k j : Nat} (a b : Nat) (h : k < j) (ha : a < 5) : ¬ k * 5 + a = j * 5 + b := by omega
theorem off_ne' {k j : Nat} (a b : Nat) (h : k < j) (ha : a < 5) : ¬ j * 5 + b = k * 5 + a := by omega
set_option maxRecDepth 100000 in
set_option maxHeartbeats 8000000 in
theorem reverse_any (B g cap : Nat) (l : List PutN) (w : World) (ho : w.ownsRow B 59 5 (.slice (some ⟨g, 0, none⟩) l.length cap) l.length (putCs l)) (hl : l.length ≤ 8) :
    Calls Tryd.prog 137 #[.slice (some ⟨g, 0, none⟩) l.length cap] w fun e' w' => e' = .returned (.tuple #[]) ∧ w'.ownsRow B 59 5 (.slice (some ⟨g, 0, none⟩) l.length cap) l.length (putCs l.reverse) ∧ (∀ g', g' ≠ g → w'.heap[g']? = w.heap[g']?) ∧ Below B w w' := by
  have HO := hide ho
  have hl' : (l.length : Int) ≤ 8 := by omega
  clear ho
  go_enter Tryd.func137, Tryd.ntmps137
  go_wp2_with fail
  go_loopw [2, 3] (fun i j wr => ∃ k : Nat, k ≤ l.length ∧ i = .int .i64 k ∧ j = .int .i64 ((l.length : Int) - 1 - k) ∧ Hid (wr.ownsRow B 59 5 (.slice (some ⟨g, 0, none⟩) l.length cap) l.length (putCs (rvk l k)) ∧ (∀ g', g' ≠ g → wr.heap[g']? = w.heap[g']?) ∧ Below B w wr)) (fun i _ _ => l.length - (intOf i).toNat)
  case atStart => exact ⟨0, Nat.zero_le _, rfl, by simp, by rw [rvk_zero]; exact HO.out, fun _ _ => rfl, Below.refl _ _⟩
  case round =>
    obtain ⟨k, hk, rfl, rfl, HR⟩ := hrel
    by_cases hlt : k + 1 + k < l.length
    · obtain ⟨j, hj⟩ : ∃ j, l.length - 1 - k = j := ⟨_, rfl⟩
      have hjj : (l.length : Int) - 1 - (k : Int) = (j : Int) := by omega
      have hjl : j < l.length := by omega
      have hjl' : (j : Int) < (l.length : Int) := by omega
      have hkl' : (k : Int) < (l.length : Int) := by omega
      have hkj : (k : Int) < (j : Int) := by omega
      have hkjn : k < j := by omega
      rw [hjj]
      obtain ⟨h1, h2, h3⟩ := HR.out
      have e : (rvk l k).length = l.length := rvk_len l k
      have h1' := h1
      rw [← e] at h1'
      have hxk : (rvk l k)[k]? = some (l.getD k zPut) := by rw [rvk_get l k k (by omega), if_neg (by omega)]
      have hxj : (rvk l k)[j]? = some (l.getD j zPut) := by rw [rvk_get l k j hjl, if_neg (by omega)]
      obtain ⟨x0, x1, x2, x3, x4⟩ := put_cells h1' k _ hxk
      obtain ⟨y0, y1, y2, y3, y4⟩ := put_cells h1' j _ hxj
      have fk0 : wr.frozen? ⟨g, k * 5, none⟩ = false := h1.frozenAt _
      have fj0 : wr.frozen? ⟨g, j * 5, none⟩ = false := h1.frozenAt _
      have fk1 : wr.frozen? ⟨g, k * 5 + 1, none⟩ = false := h1.frozenAt _
      have fj1 : wr.frozen? ⟨g, j * 5 + 1, none⟩ = false := h1.frozenAt _
      have fk2 : wr.frozen? ⟨g, k * 5 + 2, none⟩ = false := h1.frozenAt _
      have fj2 : wr.frozen? ⟨g, j * 5 + 2, none⟩ = false := h1.frozenAt _
      have fk3 : wr.frozen? ⟨g, k * 5 + 3, none⟩ = false := h1.frozenAt _
      have fj3 : wr.frozen? ⟨g, j * 5 + 3, none⟩ = false := h1.frozenAt _
      have fk4 : wr.frozen? ⟨g, k * 5 + 4, none⟩ = false := h1.frozenAt _
      have fj4 : wr.frozen? ⟨g, j * 5 + 4, none⟩ = false := h1.frozenAt _
      have hsucc := rvk_succ l k hlt
      rw [hj] at hsucc
      generalize l.getD k zPut = X at *
      generalize l.getD j zPut = Y at *
      obtain ⟨X0, X1, X2, X3, X4⟩ := X
      obtain ⟨Y0, Y1, Y2, Y3, Y4⟩ := Y
      simp only at x0 x1 x2 x3 x4 y0 y1 y2 y3 y4
      have HF : Hid (∀ WF, WF = (wr.setCells g (k * 5) (putV ⟨Y0, Y1, Y2, Y3, Y4⟩).toList).setCells g (j * 5) (putV ⟨X0, X1, X2, X3, X4⟩).toList → (WF.drew.ownsRow B 59 5 (.slice (some ⟨g, 0, none⟩) l.length cap) l.length (putCs (rvk l (k + 1))) ∧ (∀ g', g' ≠ g → WF.drew.heap[g']? = w.heap[g']?) ∧ Below B w WF.drew)) := by
        intro WF hWF
        have hBg : B ≤ g := (row_lt h1 g rfl).1
        have f1 : WF.ownsRow B 59 5 (.slice (some ⟨g, 0, none⟩) l.length cap) l.length (putCs (rvk l (k + 1))) := by
          rw [hWF, ← hsucc]
          exact own_set5 (own_set5 h1 k (by omega) _) j (by rw [List.length_set]; omega) _
        have f2 : ∀ g', g' ≠ g → WF.heap[g']? = w.heap[g']? := fun g' hg => by
          rw [hWF, setCells5_other _ _ _ _ _ hg, setCells5_other _ _ _ _ _ hg, h2 g' hg]
        have f3 : Below B w WF := by
          rw [hWF]
          exact setCells5_below (setCells5_below h3 hBg _ _) hBg _ _
        exact ⟨ownsRow_keep f1 (fun _ _ => rfl), f2, f3.drew⟩
      have ne00 : ¬ k * 5 = j * 5 := off_ne 0 0 hkjn (by decide)
      have nf00 : ¬ j * 5 = k * 5 := off_ne' 0 0 hkjn (by decide)
      have ne01 : ¬ k * 5 = j * 5 + 1 := off_ne 0 1 hkjn (by decide)
      have nf01 : ¬ j * 5 + 1 = k * 5 := off_ne' 0 1 hkjn (by decide)
      have ne02 : ¬ k * 5 = j * 5 + 2 := off_ne 0 2 hkjn (by decide)
      have nf02 : ¬ j * 5 + 2 = k * 5 := off_ne' 0 2 hkjn (by decide)
      have ne03 : ¬ k * 5 = j * 5 + 3 := off_ne 0 3 hkjn (by decide)
      have nf03 : ¬ j * 5 + 3 = k * 5 := off_ne' 0 3 hkjn (by decide)
      have ne04 : ¬ k * 5 = j * 5 + 4 := off_ne 0 4 hkjn (by decide)
      have nf04 : ¬ j * 5 + 4 = k * 5 := off_ne' 0 4 hkjn (by decide)
      have ne10 : ¬ k * 5 + 1 = j * 5 := off_ne 1 0 hkjn (by decide)
      have nf10 : ¬ j * 5 = k * 5 + 1 := off_ne' 1 0 hkjn (by decide)
      have ne11 : ¬ k * 5 + 1 = j * 5 + 1 := off_ne 1 1 hkjn (by decide)
      have nf11 : ¬ j * 5 + 1 = k * 5 + 1 := off_ne' 1 1 hkjn (by decide)
      have ne12 : ¬ k * 5 + 1 = j * 5 + 2 := off_ne 1 2 hkjn (by decide)
      have nf12 : ¬ j * 5 + 2 = k * 5 + 1 := off_ne' 1 2 hkjn (by decide)
      have ne13 : ¬ k * 5 + 1 = j * 5 + 3 := off_ne 1 3 hkjn (by decide)
      have nf13 : ¬ j * 5 + 3 = k * 5 + 1 := off_ne' 1 3 hkjn (by decide)
      have ne14 : ¬ k * 5 + 1 = j * 5 + 4 := off_ne 1 4 hkjn (by decide)
      have nf14 : ¬ j * 5 + 4 = k * 5 + 1 := off_ne' 1 4 hkjn (by decide)
      have ne20 : ¬ k * 5 + 2 = j * 5 := off_ne 2 0 hkjn (by decide)
      have nf20 : ¬ j * 5 = k * 5 + 2 := off_ne' 2 0 hkjn (by decide)
      have ne21 : ¬ k * 5 + 2 = j * 5 + 1 := off_ne 2 1 hkjn (by decide)
      have nf21 : ¬ j * 5 + 1 = k * 5 + 2 := off_ne' 2 1 hkjn (by decide)
      have ne22 : ¬ k * 5 + 2 = j * 5 + 2 := off_ne 2 2 hkjn (by decide)
      have nf22 : ¬ j * 5 + 2 = k * 5 + 2 := off_ne' 2 2 hkjn (by decide)
      have ne23 : ¬ k * 5 + 2 = j * 5 + 3 := off_ne 2 3 hkjn (by decide)
      have nf23 : ¬ j * 5 + 3 = k * 5 + 2 := off_ne' 2 3 hkjn (by decide)
      have ne24 : ¬ k * 5 + 2 = j * 5 + 4 := off_ne 2 4 hkjn (by decide)
      have nf24 : ¬ j * 5 + 4 = k * 5 + 2 := off_ne' 2 4 hkjn (by decide)
      have ne30 : ¬ k * 5 + 3 = j * 5 := off_ne 3 0 hkjn (by decide)
      have nf30 : ¬ j * 5 = k * 5 + 3 := off_ne' 3 0 hkjn (by decide)
      have ne31 : ¬ k * 5 + 3 = j * 5 + 1 := off_ne 3 1 hkjn (by decide)
      have nf31 : ¬ j * 5 + 1 = k * 5 + 3 := off_ne' 3 1 hkjn (by decide)
      have ne32 : ¬ k * 5 + 3 = j * 5 + 2 := off_ne 3 2 hkjn (by decide)
      have nf32 : ¬ j * 5 + 2 = k * 5 + 3 := off_ne' 3 2 hkjn (by decide)
      have ne33 : ¬ k * 5 + 3 = j * 5 + 3 := off_ne 3 3 hkjn (by decide)
      have nf33 : ¬ j * 5 + 3 = k * 5 + 3 := off_ne' 3 3 hkjn (by decide)
      have ne34 : ¬ k * 5 + 3 = j * 5 + 4 := off_ne 3 4 hkjn (by decide)
      have nf34 : ¬ j * 5 + 4 = k * 5 + 3 := off_ne' 3 4 hkjn (by decide)
      have ne40 : ¬ k * 5 + 4 = j * 5 := off_ne 4 0 hkjn (by decide)
      have nf40 : ¬ j * 5 = k * 5 + 4 := off_ne' 4 0 hkjn (by decide)
      have ne41 : ¬ k * 5 + 4 = j * 5 + 1 := off_ne 4 1 hkjn (by decide)
      have nf41 : ¬ j * 5 + 1 = k * 5 + 4 := off_ne' 4 1 hkjn (by decide)
      have ne42 : ¬ k * 5 + 4 = j * 5 + 2 := off_ne 4 2 hkjn (by decide)
      have nf42 : ¬ j * 5 + 2 = k * 5 + 4 := off_ne' 4 2 hkjn (by decide)
      have ne43 : ¬ k * 5 + 4 = j * 5 + 3 := off_ne 4 3 hkjn (by decide)
      have nf43 : ¬ j * 5 + 3 = k * 5 + 4 := off_ne' 4 3 hkjn (by decide)
      have ne44 : ¬ k * 5 + 4 = j * 5 + 4 := off_ne 4 4 hkjn (by decide)
      have nf44 : ¬ j * 5 + 4 = k * 5 + 4 := off_ne' 4 4 hkjn (by decide)
      clear h1 h1' h2 h3 e hxk hxj hlt hsucc
      go_wp2_with fail
      go_region
      all_goals
        go_wp2_with fail
        clear ne00 nf00 ne01 nf01 ne02 nf02 ne03 nf03 ne04 nf04 ne10 nf10 ne11 nf11 ne12 nf12 ne13 nf13 ne14 nf14 ne20 nf20 ne21 nf21 ne22 nf22 ne23 nf23 ne24 nf24 ne30 nf30 ne31 nf31 ne32 nf32 ne33 nf33 ne34 nf34 ne40 nf40 ne41 nf41 ne42 nf42 ne43 nf43 ne44 nf44
        refine ⟨⟨k + 1, by omega, by go_num, by congr 1; omega, ?_⟩, by simp [intOf]; omega⟩
        exact HF.out _ rfl
    · have hkj : ¬ (k : Int) < (l.length : Int) - 1 - (k : Int) := by omega
      have HE := hide (rvk_end l k hlt)
      clear hlt
      go_wp2_with fail
      go_end0
      obtain ⟨h1, h2, h3⟩ := HR.out
      rw [HE.out] at h1
      exact ⟨rfl, h1, h2, h3⟩
set_option maxRecDepth 100000 in
set_option maxHeartbeats 2000000 in
theorem reverse_nil (a : Option Addr) (cap : Nat) (w : World) :
    Calls Tryd.prog 137 #[.slice a 0 cap] w fun e' w' => e' = .returned (.tuple #[]) ∧ w' = w := by
  go_enter Tryd.func137, Tryd.ntmps137
  go_wp2_with fail
  go_loopw [2, 3] (fun i j wr => i = .int .i64 0 ∧ j = .int .i64 (-1) ∧ wr = w) (fun _ _ _ => 0)
  case atStart => exact ⟨rfl, rfl, rfl⟩
  case round =>
    obtain ⟨rfl, rfl, rfl⟩ := hrel
    go_wp2_with fail
    go_end0
    exact ⟨rfl, rfl⟩
end Go.Proofs.YtmmflekajbeamaaDoor
