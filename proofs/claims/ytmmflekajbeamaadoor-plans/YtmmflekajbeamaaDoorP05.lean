/-
  perform: an instruction done on a machine that runs.
  A region that draws its order, whose first operations only read: they yield the same values in every world that meets a condition S; the operations behind them come in one order; S must be shown anew behind the first of these alone, not behind those that wait for all readers.
-/
import Derived.Test.YtmmflekajbeamaaDoorP02
import Derived.StillTailTactics
import Derived.OrdersHeld
import Derived.WalkKit
namespace Go.Proofs.YtmmflekajbeamaaDoor
open Go.RowKit

theorem zero34 (w : World) : (zeroValue 34).run Tryd.prog w = .ok (.agg (S zeroZ)) w := by kernel_rfl
theorem size34 : (Tryd.prog.info? 34).map (·.size) = some 138 := by kernel_rfl

theorem row_of {w : World} {n k : Nat} (h : isRowB w n k = true) : ∃ t, w.heap[n]? = some (.cells (rowD w n) t (0, 0)) ∧ (rowD w n).size = k := by
  unfold isRowB at h
  unfold rowD
  cases hg : w.heap[n]? with
  | none => rw [hg] at h; cases h
  | some o =>
    cases o with
    | cells c t fr =>
      rw [hg] at h
      simp only [Bool.and_eq_true, beq_iff_eq] at h
      obtain ⟨h2, rfl⟩ := h
      exact ⟨t, rfl, h2⟩
    | _ => rw [hg] at h; cases h
theorem wpList_load_S {ops : Array Oper} {rest : List Oper} {o : Oper} {a : Act} {w : World} {Q : Exit → Act → World → Prop} (hgd : o.guard = none) (x : Operand) (ho : o.op = .load 34 x)
    (n : Nat) (hx : a.eval x = .pointer (some ⟨n, 0, none⟩)) (hr : isRowB w n 138 = true) (c : Array Value) (hc : rowD w n = c)
    (h : wpList Tryd.prog ops Q rest (a.put o.dst (.agg c)) w) : wpList Tryd.prog ops Q (o :: rest) a w := by
  subst hc
  obtain ⟨t, hg, hs⟩ := row_of hr
  exact wpList_load_row hgd 34 x ho n hx t _ (0, 0) _ hg Tryd.underlying34 rfl (by rw [size34, hs]) h
theorem wpList_store_S {ops : Array Oper} {rest : List Oper} {o : Oper} {a : Act} {w : World} {Q : Exit → Act → World → Prop} (hgd : o.guard = none) (x y : Operand) (ho : o.op = .store 34 x y)
    (n : Nat) (hx : a.eval x = .pointer (some ⟨n, 0, none⟩)) (z : List Int) (hy : a.eval y = .agg (S z)) (hz : z.length = 138) (hr : isRowB w n 138 = true) (w' : World) (hw : w.setRow n (S z) = w')
    (h : wpList Tryd.prog ops Q rest (a.put o.dst undef) w') : wpList Tryd.prog ops Q (o :: rest) a w := by
  subst hw
  obtain ⟨t, hg, hs⟩ := row_of hr
  exact wpList_store_row hgd 34 x y ho n (S z) hx hy t _ hg (by rw [size34, S_size, hz]) (by rw [hs, S_size, hz]) (S_one z) h

/-! ### three blocks in a row: the state, its instruction's fields, the result -/
section
variable (w : World) (c : Array Value) (t : TypeId) (o1 o2 : Obj)
theorem size3 : ((w.alloc (.cells c t)).alloc o1).heap.size = w.heap.size + 1 + 1 := by simp
theorem rowD3 : rowD (((w.alloc (.cells c t)).alloc o1).alloc o2) w.heap.size = c := by
  rw [rowD_alloc_past _ _ _ (by simp; omega), rowD_alloc_past _ _ _ (by simp), rowD_alloc_at _ _ _ _ rfl]
theorem isRowB3 (k : Nat) (h : c.size = k) : isRowB (((w.alloc (.cells c t)).alloc o1).alloc o2) w.heap.size k = true := by
  rw [isRowB_alloc_past _ _ _ _ (by simp; omega), isRowB_alloc_past _ _ _ _ (by simp), isRowB_alloc_at _ _ _ _ _ rfl]; simpa using h
theorem isRowB3' (k : Nat) (h : c.size = k) : isRowB (((w.alloc o1).alloc o2).alloc (.cells c t)) (w.heap.size + 1 + 1) k = true := by
  rw [isRowB_alloc_at _ _ _ _ _ (by simp)]; simpa using h
theorem setRow3 (c' : Array Value) : (((w.alloc o1).alloc o2).alloc (.cells c t)).setRow (w.heap.size + 1 + 1) c' = ((w.alloc o1).alloc o2).alloc (.cells c' t) :=
  setRow_alloc_at _ _ _ _ _ (by simp)
theorem rowD3d : rowD (((w.alloc (.cells c t)).alloc o1).alloc o2).drew w.heap.size = c := rowD3 w c t o1 o2
theorem isRowB3d (k : Nat) (h : c.size = k) : isRowB (((w.alloc (.cells c t)).alloc o1).alloc o2).drew w.heap.size k = true := isRowB3 w c t o1 o2 k h
theorem isRowB3d' (k : Nat) (h : c.size = k) : isRowB (((w.alloc o1).alloc o2).alloc (.cells c t)).drew (w.heap.size + 1 + 1) k = true := isRowB3' w c t o1 o2 k h
theorem setRow3d (c' : Array Value) : (((w.alloc o1).alloc o2).alloc (.cells c t)).drew.setRow (w.heap.size + 1 + 1) c' = (((w.alloc o1).alloc o2).alloc (.cells c' t)).drew := by
  rw [setRow_drew, setRow3]
theorem below3d (o : Obj) : Below w.heap.size w (((w.alloc o1).alloc o2).alloc o).drew :=
  ((((Below.refl _ _).alloc (Nat.le_refl _) _).alloc (by simp) _).alloc (by simp; omega) _).drew
theorem heap3 (o : Obj) : (((w.alloc o1).alloc o2).alloc o).heap[w.heap.size + 1 + 1]? = some o := by
  have := _root_.Go.heap_alloc_new ((w.alloc o1).alloc o2) o
  simpa using this
theorem below3 (o : Obj) : Below w.heap.size w (((w.alloc o1).alloc o2).alloc o) :=
  (((Below.refl _ _).alloc (Nat.le_refl _) _).alloc (by simp) _).alloc (by simp; omega) _
end
theorem still_tail {P : Program} {id : Nat} {Q : Exit → Act → World → Prop} {a : Act} {w : World} {l : List Oper} (n : Nat) (hm : P.follows .mixedOrders = true) (hB : Region.lexTailB .any l.toArray n = true)
    (h : wpStill P l.toArray w.drew (fun a' => wpList P l.toArray Q (l.drop n) a' w.drew) (l.take n) a) : (Code.region id l.toArray true).wp P Q a w :=
  wp_region_still_tail n hm hB h
theorem still_all {P : Program} {id : Nat} {Q : Exit → Act → World → Prop} {a : Act} {w : World} {l : List Oper} (hm : P.follows .mixedOrders = true) (hB : Region.lexB .any l.toArray = true)
    (h : wpStill P l.toArray w.drew (fun a' => Q .normal a' w.drew) l a) : (Code.region id l.toArray true).wp P Q a w :=
  wp_region_still_lit hm hB h
theorem len_set2 {z : List Int} (hl : z.length = 138) (i j : Nat) (x y : Int) : ((z.set i x).set j y).length = 138 := by simp [hl]


theorem size_alloc1 (w : World) (o : Obj) : (w.alloc o).heap.size = w.heap.size + 1 := by simp
/-! ### a row in a world that is a letter -/
theorem isRowB_below {B : Nat} {W w1 : World} (hb : Below B W w1) {n : Nat} (hn : n < B) (k : Nat) : isRowB w1 n k = isRowB W n k := by
  unfold isRowB; rw [hb.block n hn]
theorem rowD_below {B : Nat} {W w1 : World} (hb : Below B W w1) {n : Nat} (hn : n < B) : rowD w1 n = rowD W n := by
  unfold rowD; rw [hb.block n hn]
theorem rowD_setCell {w : World} {n k : Nat} (h : isRowB w n k = true) (i : Nat) (v : Value) : rowD (w.setCell ⟨n, i, none⟩ v) n = (rowD w n).setIfInBounds i v := by
  obtain ⟨t, hg, _⟩ := row_of h
  unfold rowD
  rw [heap_setCell_same w n i _ t v hg]
  rfl
theorem isRowB_setCell {w : World} {n k : Nat} (h : isRowB w n k = true) (i : Nat) (v : Value) : isRowB (w.setCell ⟨n, i, none⟩ v) n k = true := by
  obtain ⟨t, hg, hs⟩ := row_of h
  unfold isRowB
  rw [heap_setCell_same w n i _ t v hg]
  simp [hs]
theorem isRowB_setCell_other {w : World} {n k : Nat} (h : isRowB w n k = true) (m i : Nat) (hm : n ≠ m) (v : Value) : isRowB (w.setCell ⟨m, i, none⟩ v) n k = true := by
  unfold isRowB
  rw [heap_setCell_other w ⟨m, i, none⟩ n v hm]
  exact h
theorem heap_setRow_S {w : World} {n : Nat} (h : isRowB w n 138 = true) (c : Array Value) : ∃ t, (w.setRow n c).heap[n]? = some (.cells c t (0, 0)) := by
  obtain ⟨t, hg, _⟩ := row_of h
  exact ⟨t, setRow_heap w n _ c t (0, 0) hg⟩
theorem below_setRow {B : Nat} {W w1 : World} (hb : Below B W w1) {n : Nat} (hn : B ≤ n) (c : Array Value) : Below B W (w1.setRow n c) :=
  ⟨hb.os, hb.tape, hb.output, by rw [size_setRow]; exact hb.size, fun k hk => (setRow_other w1 n k c (by omega)).trans (hb.block k hk)⟩
theorem below_alloc {w : World} (o : Obj) : Below w.heap.size w (w.alloc o) := (Below.refl _ _).alloc (Nat.le_refl _) _

/-- The result of a function that gives a state and a number: read out of its cell. -/
theorem res_S {fn : Func} {p u : Tmp} (h : fn.results = #[.cell p 34, .tmp u]) (tmps : Array Value) (w : World) (g : Nat) (t : TypeId) (z : List Int) (hz : z.length = 138)
    (hp : tmps.getD p undef = .pointer (some ⟨g, 0, none⟩)) (hg : w.heap[g]? = some (.cells (S z) t (0, 0))) (e : Int) (hu : tmps.getD u undef = .int .i64 e) :
    (results fn tmps).run Tryd.prog w = .ok (.tuple #[.agg (S z), .int .i64 e]) w := by
  rw [results_cell_tmp h, hp, hu]
  simp only [asAddr, Sem.run_pure, Result.andThen]
  rw [run_loadVar_row w g t 34 (S z) (0, 0) _ hg Tryd.underlying34 rfl (by rw [size34, S_size, hz])]
end Go.Proofs.YtmmflekajbeamaaDoor

namespace Go.Proofs.YtmmflekajbeamaaDoor
open Go

section
variable {P : Program} {ops : Array Oper} {Q : Exit → Act → World → Prop} {md : Region.Mode} {S : World → Prop} {q : Nat}

/-- Whatever order is picked from here on; S holds behind every operation ahead of q that is carried out. -/
def wpAnyQ (P : Program) (md : Region.Mode) (ops : Array Oper) (Q : Exit → Act → World → Prop) (S : World → Prop) (q : Nat) : Nat → Array Bool → Act → World → Prop
  | 0, listed, a, w => Region.ready md ops listed = [] ∧ Q .normal a w
  | fuel + 1, listed, a, w =>
    (Region.ready md ops listed = [] → Q .normal a w) ∧
    ∀ i ∈ Region.ready md ops listed, wpOp P ops Q i (fun a' w' => (i < q → S w') ∧ wpAnyQ P md ops Q S q fuel (listed.setIfInBounds i true) a' w') a w
theorem wpAny_of_Q : ∀ (fuel : Nat) (listed : Array Bool) (a : Act) (w : World), wpAnyQ P md ops Q S q fuel listed a w → wpAny P md ops Q fuel listed a w
  | 0, _, _, _, h => h
  | fuel + 1, _, _, _, h => ⟨h.1, fun i hi => wpOp_mono (fun a' w' h' => wpAny_of_Q fuel _ a' w' h'.2) (h.2 i hi)⟩

theorem wpAnyQ_first {i : Nat} {oi : Oper} {v : Value} (hi : ops[i]? = some oi) (hsel : ∀ (j : Nat) (o : Oper) cs b, ops[j]? = some o → o.op ≠ .select cs b)
    (hQ : ∀ c a w, Q (.panic c) (a.put oi.dst v) w → Q (.panic c) a w)
    (hlast : ∀ j oj, q ≤ j → ops[j]? = some oj → ∃ e ∈ oj.after, Region.binds md e = true ∧ e.on = i) (hiq : i < q) :
    ∀ (fuel : Nat) (listed : Array Bool) (a : Act) (w : World),
      (∀ j oj, ops[j]? = some oj → j ≠ i → listed.getD j true = false → (∀ e ∈ oj.after, Region.binds md e = true → e.on ≠ i) → oi.apart ops oj = true) →
      i ∈ Region.ready md ops listed → YieldsIf P ops S oi v a → S w →
      wpAnyQ P md ops Q S q fuel (listed.setIfInBounds i true) (a.put oi.dst v) w → wpAnyQ P md ops Q S q (fuel + 1) listed a w := by
  intro fuel
  induction fuel with
  | zero =>
    intro listed a w _ hr hy hS H
    refine ⟨fun h => (by rw [h] at hr; cases hr), fun j hj => ?_⟩
    by_cases hji : j = i
    · subst hji; exact hy.wpOp hi hS ⟨fun _ => hS, H⟩
    · have := ready_mono hj hji
      rw [H.1] at this
      cases this
  | succ fuel ih =>
    intro listed a w hfree hr hy hS H
    refine ⟨fun h => (by rw [h] at hr; cases hr), fun j hj => ?_⟩
    by_cases hji : j = i
    · subst hji; exact hy.wpOp hi hS ⟨fun _ => hS, H⟩
    · have h1 := H.2 j (ready_mono hj hji)
      obtain ⟨hjun, oj, hoj, hall⟩ := mem_ready.1 hj
      have hnot : ∀ e ∈ oj.after, Region.binds md e = true → e.on ≠ i := fun e he hb heq => by
        have h1 := hall e he hb
        have h0 := (mem_ready.1 hr).1
        rw [heq] at h1
        rcases Nat.lt_or_ge i listed.size with h' | h'
        · simp [h'] at h0 h1; rw [h0] at h1; cases h1
        · simp [Array.getElem?_eq_none h'] at h1
      have hjq : j < q := by
        rcases Nat.lt_or_ge j q with h | h
        · exact h
        · obtain ⟨e, he, hb, hon⟩ := hlast j oj h hoj
          exact absurd hon (hnot e he hb)
      have h2 := wpOp_putIf hoj (hfree j oj hoj hji hjun hnot) (fun cs b => hsel i oi cs b hi) (fun cs b => hsel j oj cs b hoj) hQ hy h1
      have hfree' : ∀ k ok, ops[k]? = some ok → k ≠ i → (listed.setIfInBounds j true).getD k true = false →
          (∀ e ∈ ok.after, Region.binds md e = true → e.on ≠ i) → oi.apart ops ok = true := fun k ok hk hki hun hno => by
        refine hfree k ok hk hki ?_ hno
        by_cases hjk : j = k
        · subst hjk; exact hjun
        · rw [getD_set_ne true hjk] at hun; exact hun
      refine wpOp_mono (fun a' w' h3 => ⟨h3.2.1, ih (listed.setIfInBounds j true) a' w' hfree' (ready_mono hr (Ne.symm hji)) h3.1 (h3.2.1 hjq) ?_⟩) h2
      rw [Array.setIfInBounds_comm _ _ hji]
      exact h3.2.2

/-- The readers, in the order of the text: each yields its value in every world that meets S. -/
def wpTake (P : Program) (ops : Array Oper) (S : World → Prop) (Lq : Act → Prop) : List Oper → Act → Prop
  | [], a => Lq a
  | o :: rest, a => ∃ v, YieldsIf P ops S o v a ∧ wpTake P ops S Lq rest (a.put o.dst v)
theorem wpTake_nil {Lq : Act → Prop} {a : Act} (h : Lq a) : wpTake P ops S Lq [] a := h
theorem wpTake_step {Lq : Act → Prop} {a : Act} {o : Oper} {rest : List Oper} (v : Value) (hw : Region.wanted o (yielded ops a.tmps) = true) (hv : ∀ w, S w → (execOp a.eval o).run P w = .ok (.value v) w)
    (h : wpTake P ops S Lq rest (a.put o.dst v)) : wpTake P ops S Lq (o :: rest) a := ⟨v, .inl ⟨hw, hv⟩, h⟩

/-- What comes behind them: S anew behind the first m; then as they stand. -/
def wpTailS (P : Program) (ops : Array Oper) (Q : Exit → Act → World → Prop) (S : World → Prop) : Nat → List Oper → Act → World → Prop
  | 0, rest, a, w => wpList P ops Q rest a w
  | _ + 1, [], a, w => Q .normal a w
  | m + 1, o :: rest, a, w => ∀ K : Act → World → Prop, (∀ a' w', S w' → wpTailS P ops Q S m rest a' w' → K a' w') → if Region.wanted o (yielded ops a.tmps) then o.wp P a w K Q else K (a.put o.dst undef) w

theorem wpTail_step {m : Nat} {o : Oper} {rest : List Oper} {a : Act} {w : World} (hg : o.guard = none) (h : ∀ K : Act → World → Prop, (∀ a' w', S w' → wpTailS P ops Q S m rest a' w' → K a' w') → o.wp P a w K Q) : wpTailS P ops Q S (m + 1) (o :: rest) a w := fun K hK => by
  rw [if_pos (by simp [Region.wanted, hg])]
  exact h K hK

theorem wpAnyQ_of_list : ∀ (l : List Oper) (k : Nat) (listed : Array Bool) (a : Act) (w : World), (∀ j, l[j]? = ops[k + j]?) → q ≤ k →
    Region.seqB md ops l.length k listed = true → wpList P ops Q l a w → wpAnyQ P md ops Q S q l.length listed a w
  | [], _, _, _, _, _, _, hB, h => ⟨by simpa [Region.seqB] using hB, h⟩
  | o :: l, k, listed, a, w, hl, hq, hB, h => by
    have h0 : ops[k]? = some o := by simpa using (hl 0).symm
    simp only [List.length_cons, Region.seqB, Bool.and_eq_true, decide_eq_true_eq] at hB
    refine ⟨fun h1 => (by rw [hB.1] at h1; cases h1), fun i hi => ?_⟩
    rw [hB.1] at hi
    have hik : i = k := by simpa using hi
    subst hik
    have hw : wpOp P ops Q i (wpList P ops Q l) a w := by unfold wpOp; simp only [h0]; exact h
    exact wpOp_mono (fun a' w' h' => ⟨fun hlt => absurd hlt (by omega), wpAnyQ_of_list l (i + 1) _ a' w' (fun j => by have := hl (j + 1); simpa [Nat.add_assoc, Nat.add_comm 1 j] using this) (by omega) hB.2 h'⟩) hw

theorem wpAnyQ_of_tail : ∀ (m : Nat) (l : List Oper) (k : Nat) (listed : Array Bool) (a : Act) (w : World), (∀ j, l[j]? = ops[k + j]?) → k + m = q →
    Region.seqB md ops l.length k listed = true → wpTailS P ops Q S m l a w → wpAnyQ P md ops Q S q l.length listed a w
  | 0, l, k, listed, a, w, hl, hq, hB, h => wpAnyQ_of_list l k listed a w hl (by omega) hB h
  | _ + 1, [], _, _, _, _, _, _, hB, h => ⟨by simpa [Region.seqB] using hB, h⟩
  | m + 1, o :: l, k, listed, a, w, hl, hq, hB, h => by
    have h0 : ops[k]? = some o := by simpa using (hl 0).symm
    simp only [List.length_cons, Region.seqB, Bool.and_eq_true, decide_eq_true_eq] at hB
    refine ⟨fun h1 => (by rw [hB.1] at h1; cases h1), fun i hi => ?_⟩
    rw [hB.1] at hi
    have hik : i = k := by simpa using hi
    subst hik
    have h2 := h (fun a' w' => S w' ∧ wpTailS P ops Q S m l a' w') (fun _ _ h1 h2 => ⟨h1, h2⟩)
    have hw : wpOp P ops Q i (fun a' w' => S w' ∧ wpTailS P ops Q S m l a' w') a w := by
      unfold wpOp
      simp only [h0]
      split
      · rename_i hq; rw [if_pos hq] at h2; exact .inl h2
      · rename_i hq; rw [if_neg hq] at h2; exact h2
    exact wpOp_mono (fun a' w' h' => ⟨fun _ => h'.1, wpAnyQ_of_tail m l (i + 1) _ a' w' (fun j => by have := hl (j + 1); simpa [Nat.add_assoc, Nat.add_comm 1 j] using this) (by omega) hB.2 h'.2⟩) hw

/-- Everything from q on waits for every one of the first n, itself. -/
def lastB (md : Region.Mode) (ops : Array Oper) (n q : Nat) : Bool :=
  (List.range ops.size).all fun j => decide (j < q) || (List.range n).all fun i => Region.waitsFor md ops j i
def heldB (ops : Array Oper) (n q : Nat) : Bool :=
  Region.noSelect ops && decide (n ≤ q ∧ q ≤ ops.size) && lastB .any ops n q && Region.lexHead .any ops (ops.size - n) n 0 (Array.replicate ops.size false)

theorem wpAnyQ_lex {n g : Nat} {w : World} {Lq : Act → Prop} (hsel : Region.noSelect ops = true) (hnq : n ≤ q) (hlast : lastB md ops n q = true) (hQ : ∀ d v c a w, Q (.panic c) (Act.put a d v) w → Q (.panic c) a w) (hS : S w)
    (hL : ∀ listed a, Region.seqB md ops g n listed = true → Lq a → wpAnyQ P md ops Q S q g listed a w) :
    ∀ (l : List Oper) (k : Nat) (listed : Array Bool) (a : Act), (∀ j, j < l.length → l[j]? = ops[k + j]?) → k + l.length = n →
    Region.lexHead md ops g l.length k listed = true → wpTake P ops S Lq l a → wpAnyQ P md ops Q S q (l.length + g) listed a w
  | [], k, listed, a, _, hk, hB, h => by
    have : k = n := by simpa using hk
    subst this
    rw [List.length_nil, Nat.zero_add]
    exact hL listed a (by simpa [Region.lexHead] using hB) h
  | o :: l, k, listed, a, hl, hk, hB, h => by
    have h0 : ops[k]? = some o := by simpa using (hl 0 (by simp)).symm
    simp only [List.length_cons, Region.lexHead, Bool.and_eq_true] at hB
    obtain ⟨⟨hr, hf⟩, hB'⟩ := hB
    have hkn : k < n := by simp only [List.length_cons] at hk; omega
    have hr' : k ∈ Region.ready md ops listed := by simpa using hr
    obtain ⟨v, hy, hK⟩ := h
    rw [List.length_cons, show l.length + 1 + g = (l.length + g) + 1 by omega]
    refine wpAnyQ_first h0 (Region.noSelect_spec hsel) (hQ o.dst v) (fun j oj hj hoj => ?_) (by omega) (l.length + g) listed a w (Region.free_spec h0 hf) hr' hy hS
      (wpAnyQ_lex hsel hnq hlast hQ hS hL l (k + 1) _ _ (fun j hj => by have := hl (j + 1) (by simp; omega); simpa [Nat.add_assoc, Nat.add_comm 1 j] using this) (by simp only [List.length_cons] at hk; omega) hB' hK)
    have hjs : j < ops.size := (Array.getElem?_eq_some_iff.1 hoj).1
    have h1 := List.all_eq_true.1 hlast j (List.mem_range.2 hjs)
    simp only [Bool.or_eq_true, decide_eq_true_eq] at h1
    rcases h1 with h1 | h1
    · omega
    · have h2 := List.all_eq_true.1 h1 k (List.mem_range.2 hkn)
      obtain ⟨oj', hoj', e, he, hb, hon⟩ := Region.waitsFor_spec h2
      have : oj' = oj := Option.some.inj (hoj'.symm.trans hoj)
      subst this
      exact ⟨e, he, hb, hon⟩

theorem held_tail {id : Nat} {a : Act} {w : World} {l : List Oper} (n m : Nat) (S : World → Prop) (hm : P.follows .mixedOrders = true) (hB : heldB l.toArray n (n + m) = true)
    (hQ : ∀ d v c a w, Q (.panic c) (Act.put a d v) w → Q (.panic c) a w) (hS : S w.drew)
    (h : wpTake P l.toArray S (fun a' => wpTailS P l.toArray Q S m (l.drop n) a' w.drew) (l.take n) a) : (Code.region id l.toArray true).wp P Q a w := by
  simp only [heldB, Bool.and_eq_true, decide_eq_true_eq] at hB
  obtain ⟨⟨⟨hsel, hnq, hqs⟩, hlast⟩, hlex⟩ := hB
  have hn : n ≤ l.length := by simp at hqs; omega
  have htl : (l.take n).length = n := by simp; omega
  have hdl : (l.drop n).length = l.toArray.size - n := by simp
  have H := wpAnyQ_lex (P := P) (md := .any) (Q := Q) (S := S) (g := l.toArray.size - n) (w := w.drew) hsel hnq hlast hQ hS (fun listed a' hs hL => by
    have := wpAnyQ_of_tail (P := P) (md := .any) (Q := Q) (S := S) m (l.drop n) n listed a' w.drew (fun j => by simp [List.getElem?_drop]) rfl (by rw [hdl]; exact hs) hL
    rwa [hdl] at this) (l.take n) 0 _ a (fun j hj => by
    have hj' : j < n := by rw [htl] at hj; exact hj
    simp [hj']) (by simpa using htl) (by rw [htl]; exact hlex) h
  refine wp_region_any hm ?_
  have H2 := wpAny_of_Q _ _ _ _ H
  rw [htl, show n + (l.toArray.size - n) = l.toArray.size by simp; omega] at H2
  exact H2
end
end Go.Proofs.YtmmflekajbeamaaDoor
