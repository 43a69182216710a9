/-
  perform: an instruction done on a machine that runs.
  A region that draws its order, whose first operations only read: they yield the same values in every world that meets a condition S; the operations behind them come in one order; S must be shown anew behind the first of these alone, not behind those that wait for all readers.
  The cutter: how it lies in memory, and what the end of a token does to it.
-/
import Derived.Test.YtmmflekajbeamaaDoorM03
import Derived.StillTailTactics
import Derived.OrdersHeld
import Derived.WalkKit
import Derived.Test.YtmmflekajbeamaaDoorM05
import Derived.Deep.AppendLies
namespace Go.Proofs.YtmmflekajbeamaaDoor
open Go.RowKit

theorem zero34 (w : World) : (zeroValue 34).run Tryd.prog w = .ok (.agg (S zeroZ)) w := by kernel_rfl
theorem size34 : (Tryd.prog.info? 34).map (·.size) = some 138 := by kernel_rfl

theorem row_of {w : World} {n k : Nat} (h : isRowB w n k = true) : ∃ t, w.heap[n]? = some (.cells (rowD w n) t (0, 0)) ∧ (rowD w n).size = k := by
  unfold isRowB at h
  unfold rowD
  cases hg : w.heap[n]? with
  | none => rw [hg] at h; cases h
  | some o =>
    cases o with
    | cells c t fr =>
      rw [hg] at h
      simp only [Bool.and_eq_true, beq_iff_eq] at h
      obtain ⟨h2, rfl⟩ := h
      exact ⟨t, rfl, h2⟩
    | _ => rw [hg] at h; cases h
theorem wpList_load_S {ops : Array Oper} {rest : List Oper} {o : Oper} {a : Act} {w : World} {Q : Exit → Act → World → Prop} (hgd : o.guard = none) (x : Operand) (ho : o.op = .load 34 x)
    (n : Nat) (hx : a.eval x = .pointer (some ⟨n, 0, none⟩)) (hr : isRowB w n 138 = true) (c : Array Value) (hc : rowD w n = c)
    (h : wpList Tryd.prog ops Q rest (a.put o.dst (.agg c)) w) : wpList Tryd.prog ops Q (o :: rest) a w := by
  subst hc
  obtain ⟨t, hg, hs⟩ := row_of hr
  exact wpList_load_row hgd 34 x ho n hx t _ (0, 0) _ hg Tryd.underlying34 rfl (by rw [size34, hs]) h
theorem wpList_store_S {ops : Array Oper} {rest : List Oper} {o : Oper} {a : Act} {w : World} {Q : Exit → Act → World → Prop} (hgd : o.guard = none) (x y : Operand) (ho : o.op = .store 34 x y)
    (n : Nat) (hx : a.eval x = .pointer (some ⟨n, 0, none⟩)) (z : List Int) (hy : a.eval y = .agg (S z)) (hz : z.length = 138) (hr : isRowB w n 138 = true) (w' : World) (hw : w.setRow n (S z) = w')
    (h : wpList Tryd.prog ops Q rest (a.put o.dst undef) w') : wpList Tryd.prog ops Q (o :: rest) a w := by
  subst hw
  obtain ⟨t, hg, hs⟩ := row_of hr
  exact wpList_store_row hgd 34 x y ho n (S z) hx hy t _ hg (by rw [size34, S_size, hz]) (by rw [hs, S_size, hz]) (S_one z) h

/-! ### three blocks in a row: the state, its instruction's fields, the result -/
section
variable (w : World) (c : Array Value) (t : TypeId) (o1 o2 : Obj)
theorem size3 : ((w.alloc (.cells c t)).alloc o1).heap.size = w.heap.size + 1 + 1 := by simp
theorem rowD3 : rowD (((w.alloc (.cells c t)).alloc o1).alloc o2) w.heap.size = c := by
  rw [rowD_alloc_past _ _ _ (by simp; omega), rowD_alloc_past _ _ _ (by simp), rowD_alloc_at _ _ _ _ rfl]
theorem isRowB3 (k : Nat) (h : c.size = k) : isRowB (((w.alloc (.cells c t)).alloc o1).alloc o2) w.heap.size k = true := by
  rw [isRowB_alloc_past _ _ _ _ (by simp; omega), isRowB_alloc_past _ _ _ _ (by simp), isRowB_alloc_at _ _ _ _ _ rfl]; simpa using h
theorem isRowB3' (k : Nat) (h : c.size = k) : isRowB (((w.alloc o1).alloc o2).alloc (.cells c t)) (w.heap.size + 1 + 1) k = true := by
  rw [isRowB_alloc_at _ _ _ _ _ (by simp)]; simpa using h
theorem setRow3 (c' : Array Value) : (((w.alloc o1).alloc o2).alloc (.cells c t)).setRow (w.heap.size + 1 + 1) c' = ((w.alloc o1).alloc o2).alloc (.cells c' t) :=
  setRow_alloc_at _ _ _ _ _ (by simp)
theorem rowD3d : rowD (((w.alloc (.cells c t)).alloc o1).alloc o2).drew w.heap.size = c := rowD3 w c t o1 o2
theorem isRowB3d (k : Nat) (h : c.size = k) : isRowB (((w.alloc (.cells c t)).alloc o1).alloc o2).drew w.heap.size k = true := isRowB3 w c t o1 o2 k h
theorem isRowB3d' (k : Nat) (h : c.size = k) : isRowB (((w.alloc o1).alloc o2).alloc (.cells c t)).drew (w.heap.size + 1 + 1) k = true := isRowB3' w c t o1 o2 k h
theorem setRow3d (c' : Array Value) : (((w.alloc o1).alloc o2).alloc (.cells c t)).drew.setRow (w.heap.size + 1 + 1) c' = (((w.alloc o1).alloc o2).alloc (.cells c' t)).drew := by
  rw [setRow_drew, setRow3]
theorem below3d (o : Obj) : Below w.heap.size w (((w.alloc o1).alloc o2).alloc o).drew :=
  ((((Below.refl _ _).alloc (Nat.le_refl _) _).alloc (by simp) _).alloc (by simp; omega) _).drew
theorem heap3 (o : Obj) : (((w.alloc o1).alloc o2).alloc o).heap[w.heap.size + 1 + 1]? = some o := by
  have := _root_.Go.heap_alloc_new ((w.alloc o1).alloc o2) o
  simpa using this
theorem below3 (o : Obj) : Below w.heap.size w (((w.alloc o1).alloc o2).alloc o) :=
  (((Below.refl _ _).alloc (Nat.le_refl _) _).alloc (by simp) _).alloc (by simp; omega) _
end
theorem still_tail {P : Program} {id : Nat} {Q : Exit → Act → World → Prop} {a : Act} {w : World} {l : List Oper} (n : Nat) (hm : P.follows .mixedOrders = true) (hB : Region.lexTailB .any l.toArray n = true)
    (h : wpStill P l.toArray w.drew (fun a' => wpList P l.toArray Q (l.drop n) a' w.drew) (l.take n) a) : (Code.region id l.toArray true).wp P Q a w :=
  wp_region_still_tail n hm hB h
theorem still_all {P : Program} {id : Nat} {Q : Exit → Act → World → Prop} {a : Act} {w : World} {l : List Oper} (hm : P.follows .mixedOrders = true) (hB : Region.lexB .any l.toArray = true)
    (h : wpStill P l.toArray w.drew (fun a' => Q .normal a' w.drew) l a) : (Code.region id l.toArray true).wp P Q a w :=
  wp_region_still_lit hm hB h
theorem len_set2 {z : List Int} (hl : z.length = 138) (i j : Nat) (x y : Int) : ((z.set i x).set j y).length = 138 := by simp [hl]


theorem size_alloc1 (w : World) (o : Obj) : (w.alloc o).heap.size = w.heap.size + 1 := by simp
/-! ### a row in a world that is a letter -/
theorem isRowB_below {B : Nat} {W w1 : World} (hb : Below B W w1) {n : Nat} (hn : n < B) (k : Nat) : isRowB w1 n k = isRowB W n k := by
  unfold isRowB; rw [hb.block n hn]
theorem rowD_below {B : Nat} {W w1 : World} (hb : Below B W w1) {n : Nat} (hn : n < B) : rowD w1 n = rowD W n := by
  unfold rowD; rw [hb.block n hn]
theorem rowD_setCell {w : World} {n k : Nat} (h : isRowB w n k = true) (i : Nat) (v : Value) : rowD (w.setCell ⟨n, i, none⟩ v) n = (rowD w n).setIfInBounds i v := by
  obtain ⟨t, hg, _⟩ := row_of h
  unfold rowD
  rw [heap_setCell_same w n i _ t v hg]
  rfl
theorem isRowB_setCell {w : World} {n k : Nat} (h : isRowB w n k = true) (i : Nat) (v : Value) : isRowB (w.setCell ⟨n, i, none⟩ v) n k = true := by
  obtain ⟨t, hg, hs⟩ := row_of h
  unfold isRowB
  rw [heap_setCell_same w n i _ t v hg]
  simp [hs]
theorem isRowB_setCell_other {w : World} {n k : Nat} (h : isRowB w n k = true) (m i : Nat) (hm : n ≠ m) (v : Value) : isRowB (w.setCell ⟨m, i, none⟩ v) n k = true := by
  unfold isRowB
  rw [heap_setCell_other w ⟨m, i, none⟩ n v hm]
  exact h
theorem heap_setRow_S {w : World} {n : Nat} (h : isRowB w n 138 = true) (c : Array Value) : ∃ t, (w.setRow n c).heap[n]? = some (.cells c t (0, 0)) := by
  obtain ⟨t, hg, _⟩ := row_of h
  exact ⟨t, setRow_heap w n _ c t (0, 0) hg⟩
theorem below_setRow {B : Nat} {W w1 : World} (hb : Below B W w1) {n : Nat} (hn : B ≤ n) (c : Array Value) : Below B W (w1.setRow n c) :=
  ⟨hb.os, hb.tape, hb.output, by rw [size_setRow]; exact hb.size, fun k hk => (setRow_other w1 n k c (by omega)).trans (hb.block k hk)⟩
theorem below_alloc {w : World} (o : Obj) : Below w.heap.size w (w.alloc o) := (Below.refl _ _).alloc (Nat.le_refl _) _

/-- The result of a function that gives a state and a number: read out of its cell. -/
theorem res_S {fn : Func} {p u : Tmp} (h : fn.results = #[.cell p 34, .tmp u]) (tmps : Array Value) (w : World) (g : Nat) (t : TypeId) (z : List Int) (hz : z.length = 138)
    (hp : tmps.getD p undef = .pointer (some ⟨g, 0, none⟩)) (hg : w.heap[g]? = some (.cells (S z) t (0, 0))) (e : Int) (hu : tmps.getD u undef = .int .i64 e) :
    (results fn tmps).run Tryd.prog w = .ok (.tuple #[.agg (S z), .int .i64 e]) w := by
  rw [results_cell_tmp h, hp, hu]
  simp only [asAddr, Sem.run_pure, Result.andThen]
  rw [run_loadVar_row w g t 34 (S z) (0, 0) _ hg Tryd.underlying34 rfl (by rw [size34, S_size, hz])]
end Go.Proofs.YtmmflekajbeamaaDoor

namespace Go.Proofs.YtmmflekajbeamaaDoor
open Go

section
variable {P : Program} {ops : Array Oper} {Q : Exit → Act → World → Prop} {md : Region.Mode} {S : World → Prop} {q : Nat}

/-- Whatever order is picked from here on; S holds behind every operation ahead of q that is carried out. -/
def wpAnyQ (P : Program) (md : Region.Mode) (ops : Array Oper) (Q : Exit → Act → World → Prop) (S : World → Prop) (q : Nat) : Nat → Array Bool → Act → World → Prop
  | 0, listed, a, w => Region.ready md ops listed = [] ∧ Q .normal a w
  | fuel + 1, listed, a, w =>
    (Region.ready md ops listed = [] → Q .normal a w) ∧
    ∀ i ∈ Region.ready md ops listed, wpOp P ops Q i (fun a' w' => (i < q → S w') ∧ wpAnyQ P md ops Q S q fuel (listed.setIfInBounds i true) a' w') a w
theorem wpAny_of_Q : ∀ (fuel : Nat) (listed : Array Bool) (a : Act) (w : World), wpAnyQ P md ops Q S q fuel listed a w → wpAny P md ops Q fuel listed a w
  | 0, _, _, _, h => h
  | fuel + 1, _, _, _, h => ⟨h.1, fun i hi => wpOp_mono (fun a' w' h' => wpAny_of_Q fuel _ a' w' h'.2) (h.2 i hi)⟩

theorem wpAnyQ_first {i : Nat} {oi : Oper} {v : Value} (hi : ops[i]? = some oi) (hsel : ∀ (j : Nat) (o : Oper) cs b, ops[j]? = some o → o.op ≠ .select cs b)
    (hQ : ∀ c a w, Q (.panic c) (a.put oi.dst v) w → Q (.panic c) a w)
    (hlast : ∀ j oj, q ≤ j → ops[j]? = some oj → ∃ e ∈ oj.after, Region.binds md e = true ∧ e.on = i) (hiq : i < q) :
    ∀ (fuel : Nat) (listed : Array Bool) (a : Act) (w : World),
      (∀ j oj, ops[j]? = some oj → j ≠ i → listed.getD j true = false → (∀ e ∈ oj.after, Region.binds md e = true → e.on ≠ i) → oi.apart ops oj = true) →
      i ∈ Region.ready md ops listed → YieldsIf P ops S oi v a → S w →
      wpAnyQ P md ops Q S q fuel (listed.setIfInBounds i true) (a.put oi.dst v) w → wpAnyQ P md ops Q S q (fuel + 1) listed a w := by
  intro fuel
  induction fuel with
  | zero =>
    intro listed a w _ hr hy hS H
    refine ⟨fun h => (by rw [h] at hr; cases hr), fun j hj => ?_⟩
    by_cases hji : j = i
    · subst hji; exact hy.wpOp hi hS ⟨fun _ => hS, H⟩
    · have := ready_mono hj hji
      rw [H.1] at this
      cases this
  | succ fuel ih =>
    intro listed a w hfree hr hy hS H
    refine ⟨fun h => (by rw [h] at hr; cases hr), fun j hj => ?_⟩
    by_cases hji : j = i
    · subst hji; exact hy.wpOp hi hS ⟨fun _ => hS, H⟩
    · have h1 := H.2 j (ready_mono hj hji)
      obtain ⟨hjun, oj, hoj, hall⟩ := mem_ready.1 hj
      have hnot : ∀ e ∈ oj.after, Region.binds md e = true → e.on ≠ i := fun e he hb heq => by
        have h1 := hall e he hb
        have h0 := (mem_ready.1 hr).1
        rw [heq] at h1
        rcases Nat.lt_or_ge i listed.size with h' | h'
        · simp [h'] at h0 h1; rw [h0] at h1; cases h1
        · simp [Array.getElem?_eq_none h'] at h1
      have hjq : j < q := by
        rcases Nat.lt_or_ge j q with h | h
        · exact h
        · obtain ⟨e, he, hb, hon⟩ := hlast j oj h hoj
          exact absurd hon (hnot e he hb)
      have h2 := wpOp_putIf hoj (hfree j oj hoj hji hjun hnot) (fun cs b => hsel i oi cs b hi) (fun cs b => hsel j oj cs b hoj) hQ hy h1
      have hfree' : ∀ k ok, ops[k]? = some ok → k ≠ i → (listed.setIfInBounds j true).getD k true = false →
          (∀ e ∈ ok.after, Region.binds md e = true → e.on ≠ i) → oi.apart ops ok = true := fun k ok hk hki hun hno => by
        refine hfree k ok hk hki ?_ hno
        by_cases hjk : j = k
        · subst hjk; exact hjun
        · rw [getD_set_ne true hjk] at hun; exact hun
      refine wpOp_mono (fun a' w' h3 => ⟨h3.2.1, ih (listed.setIfInBounds j true) a' w' hfree' (ready_mono hr (Ne.symm hji)) h3.1 (h3.2.1 hjq) ?_⟩) h2
      rw [Array.setIfInBounds_comm _ _ hji]
      exact h3.2.2

/-- The readers, in the order of the text: each yields its value in every world that meets S. -/
def wpTake (P : Program) (ops : Array Oper) (S : World → Prop) (Lq : Act → Prop) : List Oper → Act → Prop
  | [], a => Lq a
  | o :: rest, a => ∃ v, YieldsIf P ops S o v a ∧ wpTake P ops S Lq rest (a.put o.dst v)
theorem wpTake_nil {Lq : Act → Prop} {a : Act} (h : Lq a) : wpTake P ops S Lq [] a := h
theorem wpTake_step {Lq : Act → Prop} {a : Act} {o : Oper} {rest : List Oper} (v : Value) (hw : Region.wanted o (yielded ops a.tmps) = true) (hv : ∀ w, S w → (execOp a.eval o).run P w = .ok (.value v) w)
    (h : wpTake P ops S Lq rest (a.put o.dst v)) : wpTake P ops S Lq (o :: rest) a := ⟨v, .inl ⟨hw, hv⟩, h⟩

/-- What comes behind them: S anew behind the first m; then as they stand. -/
def wpTailS (P : Program) (ops : Array Oper) (Q : Exit → Act → World → Prop) (S : World → Prop) : Nat → List Oper → Act → World → Prop
  | 0, rest, a, w => wpList P ops Q rest a w
  | _ + 1, [], a, w => Q .normal a w
  | m + 1, o :: rest, a, w => ∀ K : Act → World → Prop, (∀ a' w', S w' → wpTailS P ops Q S m rest a' w' → K a' w') → if Region.wanted o (yielded ops a.tmps) then o.wp P a w K Q else K (a.put o.dst undef) w

theorem wpTail_step {m : Nat} {o : Oper} {rest : List Oper} {a : Act} {w : World} (hg : o.guard = none) (h : ∀ K : Act → World → Prop, (∀ a' w', S w' → wpTailS P ops Q S m rest a' w' → K a' w') → o.wp P a w K Q) : wpTailS P ops Q S (m + 1) (o :: rest) a w := fun K hK => by
  rw [if_pos (by simp [Region.wanted, hg])]
  exact h K hK

theorem wpAnyQ_of_list : ∀ (l : List Oper) (k : Nat) (listed : Array Bool) (a : Act) (w : World), (∀ j, l[j]? = ops[k + j]?) → q ≤ k →
    Region.seqB md ops l.length k listed = true → wpList P ops Q l a w → wpAnyQ P md ops Q S q l.length listed a w
  | [], _, _, _, _, _, _, hB, h => ⟨by simpa [Region.seqB] using hB, h⟩
  | o :: l, k, listed, a, w, hl, hq, hB, h => by
    have h0 : ops[k]? = some o := by simpa using (hl 0).symm
    simp only [List.length_cons, Region.seqB, Bool.and_eq_true, decide_eq_true_eq] at hB
    refine ⟨fun h1 => (by rw [hB.1] at h1; cases h1), fun i hi => ?_⟩
    rw [hB.1] at hi
    have hik : i = k := by simpa using hi
    subst hik
    have hw : wpOp P ops Q i (wpList P ops Q l) a w := by unfold wpOp; simp only [h0]; exact h
    exact wpOp_mono (fun a' w' h' => ⟨fun hlt => absurd hlt (by omega), wpAnyQ_of_list l (i + 1) _ a' w' (fun j => by have := hl (j + 1); simpa [Nat.add_assoc, Nat.add_comm 1 j] using this) (by omega) hB.2 h'⟩) hw

theorem wpAnyQ_of_tail : ∀ (m : Nat) (l : List Oper) (k : Nat) (listed : Array Bool) (a : Act) (w : World), (∀ j, l[j]? = ops[k + j]?) → k + m = q →
    Region.seqB md ops l.length k listed = true → wpTailS P ops Q S m l a w → wpAnyQ P md ops Q S q l.length listed a w
  | 0, l, k, listed, a, w, hl, hq, hB, h => wpAnyQ_of_list l k listed a w hl (by omega) hB h
  | _ + 1, [], _, _, _, _, _, _, hB, h => ⟨by simpa [Region.seqB] using hB, h⟩
  | m + 1, o :: l, k, listed, a, w, hl, hq, hB, h => by
    have h0 : ops[k]? = some o := by simpa using (hl 0).symm
    simp only [List.length_cons, Region.seqB, Bool.and_eq_true, decide_eq_true_eq] at hB
    refine ⟨fun h1 => (by rw [hB.1] at h1; cases h1), fun i hi => ?_⟩
    rw [hB.1] at hi
    have hik : i = k := by simpa using hi
    subst hik
    have h2 := h (fun a' w' => S w' ∧ wpTailS P ops Q S m l a' w') (fun _ _ h1 h2 => ⟨h1, h2⟩)
    have hw : wpOp P ops Q i (fun a' w' => S w' ∧ wpTailS P ops Q S m l a' w') a w := by
      unfold wpOp
      simp only [h0]
      split
      · rename_i hq; rw [if_pos hq] at h2; exact .inl h2
      · rename_i hq; rw [if_neg hq] at h2; exact h2
    exact wpOp_mono (fun a' w' h' => ⟨fun _ => h'.1, wpAnyQ_of_tail m l (i + 1) _ a' w' (fun j => by have := hl (j + 1); simpa [Nat.add_assoc, Nat.add_comm 1 j] using this) (by omega) hB.2 h'.2⟩) hw

/-- Everything from q on waits for every one of the first n, itself. -/
def lastB (md : Region.Mode) (ops : Array Oper) (n q : Nat) : Bool :=
  (List.range ops.size).all fun j => decide (j < q) || (List.range n).all fun i => Region.waitsFor md ops j i
def heldB (ops : Array Oper) (n q : Nat) : Bool :=
  Region.noSelect ops && decide (n ≤ q ∧ q ≤ ops.size) && lastB .any ops n q && Region.lexHead .any ops (ops.size - n) n 0 (Array.replicate ops.size false)

theorem wpAnyQ_lex {n g : Nat} {w : World} {Lq : Act → Prop} (hsel : Region.noSelect ops = true) (hnq : n ≤ q) (hlast : lastB md ops n q = true) (hQ : ∀ d v c a w, Q (.panic c) (Act.put a d v) w → Q (.panic c) a w) (hS : S w)
    (hL : ∀ listed a, Region.seqB md ops g n listed = true → Lq a → wpAnyQ P md ops Q S q g listed a w) :
    ∀ (l : List Oper) (k : Nat) (listed : Array Bool) (a : Act), (∀ j, j < l.length → l[j]? = ops[k + j]?) → k + l.length = n →
    Region.lexHead md ops g l.length k listed = true → wpTake P ops S Lq l a → wpAnyQ P md ops Q S q (l.length + g) listed a w
  | [], k, listed, a, _, hk, hB, h => by
    have : k = n := by simpa using hk
    subst this
    rw [List.length_nil, Nat.zero_add]
    exact hL listed a (by simpa [Region.lexHead] using hB) h
  | o :: l, k, listed, a, hl, hk, hB, h => by
    have h0 : ops[k]? = some o := by simpa using (hl 0 (by simp)).symm
    simp only [List.length_cons, Region.lexHead, Bool.and_eq_true] at hB
    obtain ⟨⟨hr, hf⟩, hB'⟩ := hB
    have hkn : k < n := by simp only [List.length_cons] at hk; omega
    have hr' : k ∈ Region.ready md ops listed := by simpa using hr
    obtain ⟨v, hy, hK⟩ := h
    rw [List.length_cons, show l.length + 1 + g = (l.length + g) + 1 by omega]
    refine wpAnyQ_first h0 (Region.noSelect_spec hsel) (hQ o.dst v) (fun j oj hj hoj => ?_) (by omega) (l.length + g) listed a w (Region.free_spec h0 hf) hr' hy hS
      (wpAnyQ_lex hsel hnq hlast hQ hS hL l (k + 1) _ _ (fun j hj => by have := hl (j + 1) (by simp; omega); simpa [Nat.add_assoc, Nat.add_comm 1 j] using this) (by simp only [List.length_cons] at hk; omega) hB' hK)
    have hjs : j < ops.size := (Array.getElem?_eq_some_iff.1 hoj).1
    have h1 := List.all_eq_true.1 hlast j (List.mem_range.2 hjs)
    simp only [Bool.or_eq_true, decide_eq_true_eq] at h1
    rcases h1 with h1 | h1
    · omega
    · have h2 := List.all_eq_true.1 h1 k (List.mem_range.2 hkn)
      obtain ⟨oj', hoj', e, he, hb, hon⟩ := Region.waitsFor_spec h2
      have : oj' = oj := Option.some.inj (hoj'.symm.trans hoj)
      subst this
      exact ⟨e, he, hb, hon⟩

theorem held_tail {id : Nat} {a : Act} {w : World} {l : List Oper} (n m : Nat) (S : World → Prop) (hm : P.follows .mixedOrders = true) (hB : heldB l.toArray n (n + m) = true)
    (hQ : ∀ d v c a w, Q (.panic c) (Act.put a d v) w → Q (.panic c) a w) (hS : S w.drew)
    (h : wpTake P l.toArray S (fun a' => wpTailS P l.toArray Q S m (l.drop n) a' w.drew) (l.take n) a) : (Code.region id l.toArray true).wp P Q a w := by
  simp only [heldB, Bool.and_eq_true, decide_eq_true_eq] at hB
  obtain ⟨⟨⟨hsel, hnq, hqs⟩, hlast⟩, hlex⟩ := hB
  have hn : n ≤ l.length := by simp at hqs; omega
  have htl : (l.take n).length = n := by simp; omega
  have hdl : (l.drop n).length = l.toArray.size - n := by simp
  have H := wpAnyQ_lex (P := P) (md := .any) (Q := Q) (S := S) (g := l.toArray.size - n) (w := w.drew) hsel hnq hlast hQ hS (fun listed a' hs hL => by
    have := wpAnyQ_of_tail (P := P) (md := .any) (Q := Q) (S := S) m (l.drop n) n listed a' w.drew (fun j => by simp [List.getElem?_drop]) rfl (by rw [hdl]; exact hs) hL
    rwa [hdl] at this) (l.take n) 0 _ a (fun j hj => by
    have hj' : j < n := by rw [htl] at hj; exact hj
    simp [hj']) (by simpa using htl) (by rw [htl]; exact hlex) h
  refine wp_region_any hm ?_
  have H2 := wpAny_of_Q _ _ _ _ H
  rw [htl, show n + (l.toArray.size - n) = l.toArray.size by simp; omega] at H2
  exact H2
end
end Go.Proofs.YtmmflekajbeamaaDoor

namespace Go.Proofs.YtmmflekajbeamaaDoor
open Go.RowKit

/-- A token: its text, the place of its first character, the place behind its last. -/
structure Tok where
  text : ByteArray
  fl : Int
  fc : Int
  bl : Int
  bc : Int
def tokC (t : Tok) : List Value := [.string t.text, .int .i64 t.fl, .int .i64 t.fc, .int .i64 t.bl, .int .i64 t.bc]
def tokCs (l : List Tok) : List Value := l.flatMap tokC
theorem tokCs_snoc (l : List Tok) (t : Tok) : tokCs (l ++ [t]) = tokCs l ++ tokC t := by simp [tokCs]

/-- The cutter's numbers and lists. -/
structure CS where
  ln : Int
  col : Int
  beg : Int
  fl : Int
  fc : Int
  rem : Bool
  line : List Tok
  lines : List (List Tok)

def ToksAt (w : World) (B : Nat) (v : Value) (l : List Tok) : Prop := w.ownsRow B 209 5 v l.length (tokCs l)
/-- The lines, each a list of tokens in a row of its own; none of these rows is that of 'vl'. -/
def LinesAt (w : World) (B : Nat) (v vl : Value) (ls : List (List Tok)) : Prop :=
  ∃ vs : List Value, w.ownsRow B 177 1 v ls.length vs ∧ ∀ (i : Nat) (l : List Tok), ls[i]? = some l → ∃ x, vs[i]? = some x ∧ ToksAt w B x l ∧ (∀ g, x.ownBlock = some g → vl.ownBlock ≠ some g)

/-- The cutter in block N. -/
structure CutAt (N : Nat) (s : ByteArray) (st : CS) (vl vs : Value) (w : World) : Prop where
  c0 : w.cell? ⟨N, 0, none⟩ = some (.string s)
  c1 : w.cell? ⟨N, 1, none⟩ = some (.int .i64 st.ln)
  c2 : w.cell? ⟨N, 2, none⟩ = some (.int .i64 st.col)
  c3 : w.cell? ⟨N, 3, none⟩ = some (.int .i64 st.beg)
  c4 : w.cell? ⟨N, 4, none⟩ = some (.int .i64 st.fl)
  c5 : w.cell? ⟨N, 5, none⟩ = some (.int .i64 st.fc)
  c6 : w.cell? ⟨N, 6, none⟩ = some (.bool st.rem)
  c7 : w.cell? ⟨N, 7, none⟩ = some vl
  c8 : w.cell? ⟨N, 8, none⟩ = some vs
  fz : ∀ i, w.frozen? ⟨N, i, none⟩ = false
  ln : ToksAt w (N + 1) vl st.line
  ls : LinesAt w (N + 1) vs vl st.lines

theorem ownsRow_keep {w w' : World} {B : Nat} {e : TypeId} {k : Nat} {v : Value} {n : Nat} {xs : List Value} (h : w.ownsRow B e k v n xs) (hk : ∀ g, v.ownBlock = some g → w'.heap[g]? = w.heap[g]?) : w'.ownsRow B e k v n xs := by
  refine ⟨h.1, ?_⟩
  rcases h.2 with h0 | ⟨g, cap, cur, rfl, hb, hg, h1, h2, h3, h4⟩
  · exact .inl h0
  · exact .inr ⟨g, cap, cur, rfl, hb, by rw [hk g rfl]; exact hg, h1, h2, h3, h4⟩

theorem info127 : ∃ i, Tryd.prog.info? 209 = some i ∧ i.zero = some (.agg #[.string ⟨#[]⟩, .int .i64 0, .int .i64 0, .int .i64 0, .int .i64 0]) ∧ i.size = 5 ∧ i.bytes = 48 := by
  have h : (Tryd.prog.info? 209).map (fun i => (i.zero, i.size, i.bytes)) = some (some (.agg #[.string ⟨#[]⟩, .int .i64 0, .int .i64 0, .int .i64 0, .int .i64 0]), 5, 48) := by kernel_rfl
  cases hq : Tryd.prog.info? 209 with
  | none => rw [hq] at h; cases h
  | some i =>
    rw [hq] at h
    simp only [Option.map_some, Option.some.injEq, Prod.mk.injEq] at h
    exact ⟨i, rfl, h.1, h.2.1, h.2.2⟩

def endTokS (s : ByteArray) (i : Nat) (st : CS) : CS :=
  if 0 ≤ st.beg then { st with line := st.line ++ [⟨s.extract st.beg.toNat i, st.fl, st.fc, st.ln, st.col⟩], beg := -1 } else st

theorem cellD (w : World) (o : Obj) {N : Nat} (hN : N < w.heap.size) (j : Nat) : ((w.alloc o).drew).cell? ⟨N, j, none⟩ = w.cell? ⟨N, j, none⟩ := World.cell?_of_block (Below.heap_alloc w o N hN)
/-- Nothing below N turns, no iterator turns. -/
structure Fr (N : Nat) (w w' : World) : Prop where
  below : Below N w w'
  iter : ∀ (k : Nat) (it : ByteArray) (p : Nat), w.heap[k]? = some (.stringIter it p) → w'.heap[k]? = some (.stringIter it p)
theorem Fr.refl (N : Nat) (w : World) : Fr N w w := ⟨Below.refl _ _, fun _ _ _ h => h⟩
theorem Fr.trans {N : Nat} {a b c : World} (h : Fr N a b) (k : Fr N b c) : Fr N a c := ⟨h.below.trans k.below, fun i it p e => k.iter i it p (h.iter i it p e)⟩
theorem Fr.drew {N : Nat} {a b : World} (h : Fr N a b) : Fr N a b.drew := ⟨h.below.drew, h.iter⟩
theorem Fr.alloc {N : Nat} {a b : World} (h : Fr N a b) (hN : N ≤ b.heap.size) (o : Obj) : Fr N a (b.alloc o) :=
  ⟨h.below.alloc hN o, fun i it p e => by
    have := h.iter i it p e
    rw [Below.heap_alloc b o i (Array.getElem?_eq_some_iff.1 this).1]; exact this⟩
theorem Fr.setCell {N : Nat} {a b : World} (h : Fr N a b) {n i : Nat} (hn : N ≤ n) (hc : ∃ c t fr, b.heap[n]? = some (.cells c t fr)) (v : Value) : Fr N a (b.setCell ⟨n, i, none⟩ v) :=
  ⟨h.below.setCell hn v, fun k it p e => by
    have := h.iter k it p e
    rw [heap_setCell_other b ⟨n, i, none⟩ k v (by
      intro hk
      obtain ⟨c, t, fr, hc⟩ := hc
      subst hk
      rw [this] at hc
      cases hc)]
    exact this⟩
theorem Fr.grown {N : Nat} {a b c : World} {row : Option Nat} (h : Fr N a b) (hg : b.grownBy c row) (hr : ∀ k, row = some k → N ≤ k ∧ ∃ cs t fr, b.heap[k]? = some (.cells cs t fr)) (hN : N ≤ b.heap.size) : Fr N a c :=
  ⟨h.below.grown hg hN (fun k hk => (hr k hk).1), fun k it p e => by
    have := h.iter k it p e
    rw [hg.block k (Array.getElem?_eq_some_iff.1 this).1 (fun e2 => by
      obtain ⟨_, cs, t, fr, hc⟩ := hr k e2.symm
      rw [this] at hc
      cases hc)]
    exact this⟩
theorem ownsRow_cells {w : World} {B : Nat} {e : TypeId} {k : Nat} {v : Value} {n : Nat} {xs : List Value} (h : w.ownsRow B e k v n xs) : ∀ g, v.ownBlock = some g → B ≤ g ∧ ∃ cs t fr, w.heap[g]? = some (.cells cs t fr) := by
  intro g hg
  rcases h.2 with ⟨rfl, _⟩ | ⟨g', cap, cur, rfl, hb, hc, _⟩
  · cases hg
  · cases hg
    exact ⟨hb, cur, e, (0, 0), hc⟩
theorem ownsRow_kind {w : World} {B : Nat} {e : TypeId} {k : Nat} {v : Value} {n : Nat} {xs : List Value} (h : w.ownsRow B e k v n xs) : ∀ g, v.ownBlock = some g → ∃ cur, w.heap[g]? = some (.cells cur e (0, 0)) := by
  intro g hg
  rcases h.2 with ⟨rfl, _⟩ | ⟨g', cap, cur, rfl, hb, hc, _⟩
  · cases hg
  · cases hg
    exact ⟨cur, hc⟩
theorem cells_of_cell {w : World} {n i : Nat} {v : Value} (h : w.cell? ⟨n, i, none⟩ = some v) : ∃ c t fr, w.heap[n]? = some (.cells c t fr) := by
  unfold World.cell? at h
  cases hq : w.heap[n]? with
  | none => simp [hq] at h
  | some o => cases o <;> simp_all

theorem cell_of_rows {w : World} {N i j : Nat} {v u : Value} (hN : w.cell? ⟨N, j, none⟩ = some u) (h : j ≠ i) : (w.setCell ⟨N, i, none⟩ v).cell? ⟨N, j, none⟩ = some u := by
  obtain ⟨c, t, fr, hc⟩ := cells_of_cell hN
  rw [cell_of_row w N j c t fr hc] at hN
  rw [setCell_eq_setRow w N i c t fr v hc, cell_of_row _ N j _ t fr (setRow_heap w N c _ t fr hc)]
  rw [Array.getElem?_setIfInBounds_ne (fun e => h e.symm)]
  exact hN
theorem cell_set_same {w : World} {N i : Nat} {v u : Value} (hN : w.cell? ⟨N, i, none⟩ = some u) : (w.setCell ⟨N, i, none⟩ v).cell? ⟨N, i, none⟩ = some v := by
  obtain ⟨c, t, fr, hc⟩ := cells_of_cell hN
  rw [cell_of_row w N i c t fr hc] at hN
  rw [setCell_eq_setRow w N i c t fr v hc, cell_of_row _ N i _ t fr (setRow_heap w N c _ t fr hc)]
  rw [Array.getElem?_setIfInBounds_self_of_lt (Array.getElem?_eq_some_iff.1 hN).1]
theorem heap_set_other (w : World) {N i g : Nat} (v : Value) (h : g ≠ N) : (w.setCell ⟨N, i, none⟩ v).heap[g]? = w.heap[g]? := heap_setCell_other w ⟨N, i, none⟩ g v h
theorem linesAt_keep {w w' : World} {B : Nat} {v vl vl' : Value} {ls : List (List Tok)} (h : LinesAt w B v vl ls)
    (h1 : ∀ g, B ≤ g → vl.ownBlock ≠ some g → g < w.heap.size → w'.heap[g]? = w.heap[g]?) (hv : ∀ g, v.ownBlock = some g → vl.ownBlock ≠ some g)
    (h2 : ∀ g, vl'.ownBlock = some g → vl.ownBlock = some g ∨ w.heap.size ≤ g) : LinesAt w' B v vl' ls := by
  obtain ⟨vs, ho, hl⟩ := h
  have lt : ∀ {e k x n xs}, w.ownsRow B e k x n xs → ∀ g, x.ownBlock = some g → B ≤ g ∧ g < w.heap.size := fun ho g hg => by
    obtain ⟨hb, c, t, fr, hc⟩ := ownsRow_cells ho g hg
    exact ⟨hb, (Array.getElem?_eq_some_iff.1 hc).1⟩
  refine ⟨vs, ownsRow_keep ho (fun g hg => h1 g (lt ho g hg).1 (hv g hg) (lt ho g hg).2), fun i l hi => ?_⟩
  obtain ⟨x, hx, ht, hd⟩ := hl i l hi
  refine ⟨x, hx, ownsRow_keep ht (fun g hg => h1 g (lt ht g hg).1 (hd g hg) (lt ht g hg).2), fun g hg e => ?_⟩
  rcases h2 g e with h3 | h3
  · exact hd g hg h3
  · have := (lt ht g hg).2; omega

theorem endTok_post (N : Nat) (s : ByteArray) (st : CS) (vl vs : Value) (i b : Nat) (w : World) (h : CutAt N s st vl vs w) (hb : st.beg = b) (g cap : Nat) (w1 : World)
    (ho : w1.ownsRow (N + 1) 209 5 (.slice (some ⟨g, 0, none⟩) (st.line.length + 1) cap) (st.line.length + 1) (tokCs st.line ++ tokC ⟨s.extract b i, st.fl, st.fc, st.ln, st.col⟩))
    (hg : ((w.alloc (.cells #[.string (s.extract b i), .int .i64 st.fl, .int .i64 st.fc, .int .i64 st.ln, .int .i64 st.col] 209)).drew).grownBy w1 vl.ownBlock)
    (ha : vl.ownBlock = some g ∨ g = w.heap.size + 1) :
    CutAt N s (endTokS s i st) (.slice (some ⟨g, 0, none⟩) (st.line.length + 1) cap) vs ((w1.setCell ⟨N, 7, none⟩ (.slice (some ⟨g, 0, none⟩) (st.line.length + 1) cap)).setCell ⟨N, 3, none⟩ (.int .i64 (-1))) ∧
    Fr N w ((w1.setCell ⟨N, 7, none⟩ (.slice (some ⟨g, 0, none⟩) (st.line.length + 1) cap)).setCell ⟨N, 3, none⟩ (.int .i64 (-1))) := by
  have hNlt : N < w.heap.size := by obtain ⟨c, t, fr, hc⟩ := cells_of_cell h.c0; exact (Array.getElem?_eq_some_iff.1 hc).1
  have hNb : some N ≠ vl.ownBlock := fun e => by have := (ownsRow_cells h.ln N e.symm).1; omega
  have hsz : ((w.alloc (.cells #[.string (s.extract b i), .int .i64 st.fl, .int .i64 st.fc, .int .i64 st.ln, .int .i64 st.col] 209)).drew).heap.size = w.heap.size + 1 := size_alloc1 _ _
  have hold : ∀ k, k < w.heap.size → some k ≠ vl.ownBlock → w1.heap[k]? = w.heap[k]? := fun k hk hn => (hg.block k (by rw [hsz]; omega) hn).trans (Below.heap_alloc w _ k hk)
  have hN1 : w1.heap[N]? = w.heap[N]? := hold N hNlt hNb
  have k1 : ∀ j, w1.cell? ⟨N, j, none⟩ = w.cell? ⟨N, j, none⟩ := fun j => World.cell?_of_block hN1
  have k2 : ∀ j, w1.frozen? ⟨N, j, none⟩ = w.frozen? ⟨N, j, none⟩ := fun j => World.frozen?_of_block hN1
  have hgN : g ≠ N := by have := (ownsRow_cells ho g rfl).1; omega
  have e : endTokS s i st = { st with line := st.line ++ [⟨s.extract b i, st.fl, st.fc, st.ln, st.col⟩], beg := -1 } := by
    unfold endTokS; rw [if_pos (by omega), hb, Int.toNat_natCast]
  generalize hv : Value.slice (some ⟨g, 0, none⟩) (st.line.length + 1) cap = v at *
  have hvb : v.ownBlock = some g := by rw [← hv]; rfl
  have hh : ∀ k, k ≠ N → ((w1.setCell ⟨N, 7, none⟩ v).setCell ⟨N, 3, none⟩ (.int .i64 (-1))).heap[k]? = w1.heap[k]? := fun k hk => (heap_set_other _ _ hk).trans (heap_set_other _ _ hk)
  have cc : ∀ j u, j ≠ 7 → j ≠ 3 → w.cell? ⟨N, j, none⟩ = some u → ((w1.setCell ⟨N, 7, none⟩ v).setCell ⟨N, 3, none⟩ (.int .i64 (-1))).cell? ⟨N, j, none⟩ = some u := fun j u h7 h3 hc =>
    cell_of_rows (cell_of_rows ((k1 j).trans hc) h7) h3
  have c7 : (w1.setCell ⟨N, 7, none⟩ v).cell? ⟨N, 7, none⟩ = some v := cell_set_same ((k1 7).trans h.c7)
  have c3 : (w1.setCell ⟨N, 7, none⟩ v).cell? ⟨N, 3, none⟩ = some (.int .i64 st.beg) := cell_of_rows ((k1 3).trans h.c3) (by decide)
  rw [e]
  refine ⟨⟨cc 0 _ (by decide) (by decide) h.c0, cc 1 _ (by decide) (by decide) h.c1, cc 2 _ (by decide) (by decide) h.c2, cell_set_same c3, cc 4 _ (by decide) (by decide) h.c4, cc 5 _ (by decide) (by decide) h.c5, cc 6 _ (by decide) (by decide) h.c6,
    cell_of_rows c7 (by decide), cc 8 _ (by decide) (by decide) h.c8, fun j => by rw [World.frozen?_setCell, World.frozen?_setCell, k2]; exact h.fz j, ?_, ?_⟩, ?_⟩
  · show World.ownsRow _ _ _ _ _ _ _
    rw [tokCs_snoc, List.length_append, List.length_singleton]
    exact ownsRow_keep ho (fun k hk => by
      rw [hvb] at hk; cases hk
      exact hh g hgN)
  · refine linesAt_keep h.ls (fun k hk hn hlt => (hh k (by omega)).trans (hold k hlt (fun e => hn e.symm))) (fun k hk e2 => ?_) (fun k hk => ?_)
    · obtain ⟨vs', ho', _⟩ := h.ls
      have t1 := ownsRow_kind ho' k hk
      have t2 := ownsRow_kind h.ln k e2
      obtain ⟨c1, t1⟩ := t1
      obtain ⟨c2, t2⟩ := t2
      rw [t1] at t2
      cases t2
    · rw [hvb] at hk; cases hk
      rcases ha with ha | ha
      · exact .inl ha
      · right; omega
  · have f1 : Fr N w ((w.alloc (.cells #[.string (s.extract b i), .int .i64 st.fl, .int .i64 st.fc, .int .i64 st.ln, .int .i64 st.col] 209)).drew) := ((Fr.refl N w).alloc (by omega) _).drew
    have f2 := f1.grown hg (fun k hk => by
      obtain ⟨hb', c, t, fr, hc⟩ := ownsRow_cells h.ln k hk
      refine ⟨by omega, c, t, fr, ?_⟩
      exact (Below.heap_alloc w _ k (Array.getElem?_eq_some_iff.1 hc).1).trans hc) (by rw [hsz]; omega)
    have hcN : ∃ c t fr, w1.heap[N]? = some (.cells c t fr) := by
      obtain ⟨c, t, fr, hc⟩ := cells_of_cell h.c0
      exact ⟨c, t, fr, hN1.trans hc⟩
    exact (f2.setCell (Nat.le_refl _) hcN _).setCell (Nat.le_refl _) (cells_of_cell c7) _

set_option maxRecDepth 100000 in
set_option maxHeartbeats 2000000 in
theorem endToken_yes (N : Nat) (s : ByteArray) (st : CS) (vl vs : Value) (i b : Nat) (w : World) (h : CutAt N s st vl vs w) (hb : st.beg = b) (hbi : b ≤ i) (hi : i ≤ s.size) (hlen : st.line.length ≤ 5000) :
    Calls Tryd.prog 171 #[.pointer (some ⟨N, 0, none⟩), .int .i64 i] w fun e' w' => e' = .returned (.tuple #[]) ∧ (∃ vl', CutAt N s (endTokS s i st) vl' vs w') ∧ Fr N w w' := by
  have hblk := cells_of_cell h.c0
  have hNlt : N < w.heap.size := by obtain ⟨c, t, fr, hc⟩ := hblk; exact (Array.getElem?_eq_some_iff.1 hc).1
  have HH := hide h
  obtain ⟨c0, c1, c2, c3, c4, c5, c6, c7, c8, fz, hln, hls⟩ := h
  have HLn := hide hln
  clear hln hls hblk
  rw [hb] at c3
  have hb0 : (0 : Int) ≤ (b : Int) := by omega
  have hbi' : (b : Int) ≤ (i : Int) := by omega
  have hi' : (i : Int) ≤ (s.size : Int) := by omega
  obtain ⟨inf, hinf, hz, hsz, hby⟩ := info127
  have HInf := hide hinf; have HZ := hide hz; have HSz := hide hsz; have HBy := hide hby
  clear hinf hz hsz hby
  have HBeg := hide hb
  clear hb
  have hown0 : ((w.alloc (.cells #[.string (s.extract b i), .int .i64 st.fl, .int .i64 st.fc, .int .i64 st.ln, .int .i64 st.col] 209)).drew).ownsRow (N + 1) 209 5 vl st.line.length (tokCs st.line) :=
    ownsRow_keep HLn.out (fun g hg => Below.heap_alloc w _ g (by obtain ⟨_, c, t, fr, hc⟩ := ownsRow_cells HLn.out g hg; exact (Array.getElem?_eq_some_iff.1 hc).1))
  have HO := hide hown0
  clear hown0
  have HNb : Hid (some N ≠ vl.ownBlock) := fun e => by
    have := (ownsRow_cells HLn.out N e.symm).1
    omega
  have HK : Hid (∀ w1, ((w.alloc (.cells #[.string (s.extract b i), .int .i64 st.fl, .int .i64 st.fc, .int .i64 st.ln, .int .i64 st.col] 209)).drew).grownBy w1 vl.ownBlock → (∀ j, w1.cell? ⟨N, j, none⟩ = w.cell? ⟨N, j, none⟩) ∧ ∀ j, w1.frozen? ⟨N, j, none⟩ = false) := fun w1 hg =>
    ⟨fun j => by
      rw [hg.cell_far ⟨N, j, none⟩ (by show N < (w.alloc _).heap.size; rw [size_alloc1]; omega) HNb.out]
      exact World.cell?_of_block (Below.heap_alloc w _ N hNlt),
     fun j => by
      rw [hg.frozen_far ⟨N, j, none⟩ (by show N < (w.alloc _).heap.size; rw [size_alloc1]; omega) HNb.out]
      exact (World.frozen?_of_block (w := w) (Below.heap_alloc w _ N hNlt)).trans (fz j)⟩
  go_enter Tryd.func171, Tryd.ntmps171
  go_wp2_with fail
  refine held_tail 24 2 (fun w' => w'.cell? ⟨N, 0, none⟩ = some (.string s) ∧ w'.cell? ⟨N, 1, none⟩ = some (.int .i64 st.ln) ∧ w'.cell? ⟨N, 2, none⟩ = some (.int .i64 st.col) ∧ w'.cell? ⟨N, 3, none⟩ = some (.int .i64 b) ∧ w'.cell? ⟨N, 4, none⟩ = some (.int .i64 st.fl) ∧ w'.cell? ⟨N, 5, none⟩ = some (.int .i64 st.fc) ∧ w'.cell? ⟨N, 7, none⟩ = some vl) (by kernel_rfl) (by kernel_rfl) (fun d _ _ _ _ h => by cases d <;> exact h) ⟨c0, c1, c2, c3, c4, c5, c7⟩ ?_
  simp only [List.take_succ_cons, List.take_zero, List.drop_succ_cons, List.drop_zero]
  iterate 24
    refine wpTake_step ?_ rfl ?_ ?_
    rotate_left
    · rintro w' ⟨d0, d1, d2, d3, d4, d5, d7⟩
      go_simp
      rfl
    go_simp
  refine wpTake_nil ?_
  refine wpTail_step rfl (fun K hK => ?_)
  go_simp
  refine hK _ _ ⟨(cellD w _ hNlt 0).trans c0, (cellD w _ hNlt 1).trans c1, (cellD w _ hNlt 2).trans c2, (cellD w _ hNlt 3).trans c3, (cellD w _ hNlt 4).trans c4, (cellD w _ hNlt 5).trans c5, (cellD w _ hNlt 7).trans c7⟩ ?_
  clear hK K
  refine wpTail_step rfl (fun K hK => ?_)
  refine wp_append_lies _ _ _ 177 rfl (N + 1) 209 inf _ 5 48 Tryd.underlying177 HInf.out HZ.out HSz.out HBy.out rfl (by decide) vl st.line.length (tokCs st.line) rfl HO.out ⟨w.heap.size, 0, none⟩ 1 1 (tokC ⟨s.extract b i, st.fl, st.fc, st.ln, st.col⟩) rfl rfl (World.news_of_block (_root_.Go.heap_alloc_new w _)) (fun u hu => by simp [tokC] at hu; rcases hu with rfl | rfl | rfl | rfl | rfl <;> rfl) (by decide) (by unfold maxLen; omega) (by omega) (by show N + 1 ≤ (w.alloc _).heap.size; rw [size_alloc1]; omega) (w.heap.size + 1) (by show (w.alloc _).heap.size = _; rw [size_alloc1]) ?_
  intro g cap w1 hown1 hgr hat hlt
  obtain ⟨k1, k2⟩ := HK.out w1 hgr
  refine hK _ _ ⟨(k1 0).trans c0, (k1 1).trans c1, (k1 2).trans c2, (k1 3).trans c3, (k1 4).trans c4, (k1 5).trans c5, (k1 7).trans c7⟩ ?_
  have HO1 := hide hown1; have HGr := hide hgr; have HAt := hide hat
  clear hown1 hgr hat hK K
  unfold wpTailS
  go_wp2_with fail
  go_end0
  exact ⟨rfl, ⟨_, (endTok_post N s st vl vs i b w HH.out HBeg.out g cap w1 HO1.out HGr.out HAt.out).1⟩, (endTok_post N s st vl vs i b w HH.out HBeg.out g cap w1 HO1.out HGr.out HAt.out).2⟩
end Go.Proofs.YtmmflekajbeamaaDoor
