/-
  A region that draws its order, whose first operations only read: they yield the same values in every world that meets a condition S; the operations behind them come in one order; S must be shown anew behind the first of these alone, not behind those that wait for all readers.
  The cutter: how it lies in memory, and what the end of a token does to it.
  The cutter: the end of a line.
  The cutter: a character taken.
  A text cut into lines of tokens (cut).
  Characters by the document's width against the model's decoding of a text.
  The program's cutting of a text against the document's lines and tokens, character by character.
  The document's lines and tokens: line by line is character by character.
  Tokens are of whole characters; names by characters are names by bytes.
  The document's own answer: how many bytes a character has (width).
  An instruction's parts held against its row of the table (checkParts).
  What has been read of a text: words, labels, uses of labels; how they lie in memory; the same as plain functions on lists.
  An instruction whose parts are right is laid (lay).
  The document's own answer: the first byte that begins no character (broken); the lines of a text (lines).
  Plans: the small functions: numbers out of bytes (number.Read, and the document's Value); a put out of its bytes (readPut), whether it may stand in a plan (isPut).
  Frames: the check sum, the program's and the document's (frame.Sum, cribref.Sum).
-/
import Derived.OrdersHeld
import Derived.StillTailTactics
import Derived.WalkKit
import Derived.Test.YtmmflekajbeamabGreatDoorW03
import Derived.Deep.AppendLies
import Derived.Lib.OthersKept
import Derived.Maps.OwnSet
import Derived.Maps.OwnOps
import Derived.OwnWalk
import Derived.Test.YtmmflekajbeamabGreatDoorW02
namespace Go.Proofs.YtmmflekajbeamabGreatDoor
open Go

section
variable {P : Program} {ops : Array Oper} {Q : Exit → Act → World → Prop} {md : Region.Mode} {S : World → Prop} {q : Nat}

/-- Whatever order is picked from here on; S holds behind every operation ahead of q that is carried out. -/
def wpAnyQ (P : Program) (md : Region.Mode) (ops : Array Oper) (Q : Exit → Act → World → Prop) (S : World → Prop) (q : Nat) : Nat → Array Bool → Act → World → Prop
  | 0, listed, a, w => Region.ready md ops listed = [] ∧ Q .normal a w
  | fuel + 1, listed, a, w =>
    (Region.ready md ops listed = [] → Q .normal a w) ∧
    ∀ i ∈ Region.ready md ops listed, wpOp P ops Q i (fun a' w' => (i < q → S w') ∧ wpAnyQ P md ops Q S q fuel (listed.setIfInBounds i true) a' w') a w
theorem wpAny_of_Q : ∀ (fuel : Nat) (listed : Array Bool) (a : Act) (w : World), wpAnyQ P md ops Q S q fuel listed a w → wpAny P md ops Q fuel listed a w
  | 0, _, _, _, h => h
  | fuel + 1, _, _, _, h => ⟨h.1, fun i hi => wpOp_mono (fun a' w' h' => wpAny_of_Q fuel _ a' w' h'.2) (h.2 i hi)⟩

theorem wpAnyQ_first {i : Nat} {oi : Oper} {v : Value} (hi : ops[i]? = some oi) (hsel : ∀ (j : Nat) (o : Oper) cs b, ops[j]? = some o → o.op ≠ .select cs b)
    (hQ : ∀ c a w, Q (.panic c) (a.put oi.dst v) w → Q (.panic c) a w)
    (hlast : ∀ j oj, q ≤ j → ops[j]? = some oj → ∃ e ∈ oj.after, Region.binds md e = true ∧ e.on = i) (hiq : i < q) :
    ∀ (fuel : Nat) (listed : Array Bool) (a : Act) (w : World),
      (∀ j oj, ops[j]? = some oj → j ≠ i → listed.getD j true = false → (∀ e ∈ oj.after, Region.binds md e = true → e.on ≠ i) → oi.apart ops oj = true) →
      i ∈ Region.ready md ops listed → YieldsIf P ops S oi v a → S w →
      wpAnyQ P md ops Q S q fuel (listed.setIfInBounds i true) (a.put oi.dst v) w → wpAnyQ P md ops Q S q (fuel + 1) listed a w := by
  intro fuel
  induction fuel with
  | zero =>
    intro listed a w _ hr hy hS H
    refine ⟨fun h => (by rw [h] at hr; cases hr), fun j hj => ?_⟩
    by_cases hji : j = i
    · subst hji; exact hy.wpOp hi hS ⟨fun _ => hS, H⟩
    · have := ready_mono hj hji
      rw [H.1] at this
      cases this
  | succ fuel ih =>
    intro listed a w hfree hr hy hS H
    refine ⟨fun h => (by rw [h] at hr; cases hr), fun j hj => ?_⟩
    by_cases hji : j = i
    · subst hji; exact hy.wpOp hi hS ⟨fun _ => hS, H⟩
    · have h1 := H.2 j (ready_mono hj hji)
      obtain ⟨hjun, oj, hoj, hall⟩ := mem_ready.1 hj
      have hnot : ∀ e ∈ oj.after, Region.binds md e = true → e.on ≠ i := fun e he hb heq => by
        have h1 := hall e he hb
        have h0 := (mem_ready.1 hr).1
        rw [heq] at h1
        rcases Nat.lt_or_ge i listed.size with h' | h'
        · simp [h'] at h0 h1; rw [h0] at h1; cases h1
        · simp [Array.getElem?_eq_none h'] at h1
      have hjq : j < q := by
        rcases Nat.lt_or_ge j q with h | h
        · exact h
        · obtain ⟨e, he, hb, hon⟩ := hlast j oj h hoj
          exact absurd hon (hnot e he hb)
      have h2 := wpOp_putIf hoj (hfree j oj hoj hji hjun hnot) (fun cs b => hsel i oi cs b hi) (fun cs b => hsel j oj cs b hoj) hQ hy h1
      have hfree' : ∀ k ok, ops[k]? = some ok → k ≠ i → (listed.setIfInBounds j true).getD k true = false →
          (∀ e ∈ ok.after, Region.binds md e = true → e.on ≠ i) → oi.apart ops ok = true := fun k ok hk hki hun hno => by
        refine hfree k ok hk hki ?_ hno
        by_cases hjk : j = k
        · subst hjk; exact hjun
        · rw [getD_set_ne true hjk] at hun; exact hun
      refine wpOp_mono (fun a' w' h3 => ⟨h3.2.1, ih (listed.setIfInBounds j true) a' w' hfree' (ready_mono hr (Ne.symm hji)) h3.1 (h3.2.1 hjq) ?_⟩) h2
      rw [Array.setIfInBounds_comm _ _ hji]
      exact h3.2.2

/-- The readers, in the order of the text: each yields its value in every world that meets S. -/
def wpTake (P : Program) (ops : Array Oper) (S : World → Prop) (Lq : Act → Prop) : List Oper → Act → Prop
  | [], a => Lq a
  | o :: rest, a => ∃ v, YieldsIf P ops S o v a ∧ wpTake P ops S Lq rest (a.put o.dst v)
theorem wpTake_nil {Lq : Act → Prop} {a : Act} (h : Lq a) : wpTake P ops S Lq [] a := h
theorem wpTake_step {Lq : Act → Prop} {a : Act} {o : Oper} {rest : List Oper} (v : Value) (hw : Region.wanted o (yielded ops a.tmps) = true) (hv : ∀ w, S w → (execOp a.eval o).run P w = .ok (.value v) w)
    (h : wpTake P ops S Lq rest (a.put o.dst v)) : wpTake P ops S Lq (o :: rest) a := ⟨v, .inl ⟨hw, hv⟩, h⟩

/-- What comes behind them: S anew behind the first m; then as they stand. -/
def wpTailS (P : Program) (ops : Array Oper) (Q : Exit → Act → World → Prop) (S : World → Prop) : Nat → List Oper → Act → World → Prop
  | 0, rest, a, w => wpList P ops Q rest a w
  | _ + 1, [], a, w => Q .normal a w
  | m + 1, o :: rest, a, w => ∀ K : Act → World → Prop, (∀ a' w', S w' → wpTailS P ops Q S m rest a' w' → K a' w') → if Region.wanted o (yielded ops a.tmps) then o.wp P a w K Q else K (a.put o.dst undef) w

theorem wpTail_step {m : Nat} {o : Oper} {rest : List Oper} {a : Act} {w : World} (hg : o.guard = none) (h : ∀ K : Act → World → Prop, (∀ a' w', S w' → wpTailS P ops Q S m rest a' w' → K a' w') → o.wp P a w K Q) : wpTailS P ops Q S (m + 1) (o :: rest) a w := fun K hK => by
  rw [if_pos (by simp [Region.wanted, hg])]
  exact h K hK

theorem wpAnyQ_of_list : ∀ (l : List Oper) (k : Nat) (listed : Array Bool) (a : Act) (w : World), (∀ j, l[j]? = ops[k + j]?) → q ≤ k →
    Region.seqB md ops l.length k listed = true → wpList P ops Q l a w → wpAnyQ P md ops Q S q l.length listed a w
  | [], _, _, _, _, _, _, hB, h => ⟨by simpa [Region.seqB] using hB, h⟩
  | o :: l, k, listed, a, w, hl, hq, hB, h => by
    have h0 : ops[k]? = some o := by simpa using (hl 0).symm
    simp only [List.length_cons, Region.seqB, Bool.and_eq_true, decide_eq_true_eq] at hB
    refine ⟨fun h1 => (by rw [hB.1] at h1; cases h1), fun i hi => ?_⟩
    rw [hB.1] at hi
    have hik : i = k := by simpa using hi
    subst hik
    have hw : wpOp P ops Q i (wpList P ops Q l) a w := by unfold wpOp; simp only [h0]; exact h
    exact wpOp_mono (fun a' w' h' => ⟨fun hlt => absurd hlt (by omega), wpAnyQ_of_list l (i + 1) _ a' w' (fun j => by have := hl (j + 1); simpa [Nat.add_assoc, Nat.add_comm 1 j] using this) (by omega) hB.2 h'⟩) hw

theorem wpAnyQ_of_tail : ∀ (m : Nat) (l : List Oper) (k : Nat) (listed : Array Bool) (a : Act) (w : World), (∀ j, l[j]? = ops[k + j]?) → k + m = q →
    Region.seqB md ops l.length k listed = true → wpTailS P ops Q S m l a w → wpAnyQ P md ops Q S q l.length listed a w
  | 0, l, k, listed, a, w, hl, hq, hB, h => wpAnyQ_of_list l k listed a w hl (by omega) hB h
  | _ + 1, [], _, _, _, _, _, _, hB, h => ⟨by simpa [Region.seqB] using hB, h⟩
  | m + 1, o :: l, k, listed, a, w, hl, hq, hB, h => by
    have h0 : ops[k]? = some o := by simpa using (hl 0).symm
    simp only [List.length_cons, Region.seqB, Bool.and_eq_true, decide_eq_true_eq] at hB
    refine ⟨fun h1 => (by rw [hB.1] at h1; cases h1), fun i hi => ?_⟩
    rw [hB.1] at hi
    have hik : i = k := by simpa using hi
    subst hik
    have h2 := h (fun a' w' => S w' ∧ wpTailS P ops Q S m l a' w') (fun _ _ h1 h2 => ⟨h1, h2⟩)
    have hw : wpOp P ops Q i (fun a' w' => S w' ∧ wpTailS P ops Q S m l a' w') a w := by
      unfold wpOp
      simp only [h0]
      split
      · rename_i hq; rw [if_pos hq] at h2; exact .inl h2
      · rename_i hq; rw [if_neg hq] at h2; exact h2
    exact wpOp_mono (fun a' w' h' => ⟨fun _ => h'.1, wpAnyQ_of_tail m l (i + 1) _ a' w' (fun j => by have := hl (j + 1); simpa [Nat.add_assoc, Nat.add_comm 1 j] using this) (by omega) hB.2 h'.2⟩) hw

/-- Everything from q on waits for every one of the first n, itself. -/
def lastB (md : Region.Mode) (ops : Array Oper) (n q : Nat) : Bool :=
  (List.range ops.size).all fun j => decide (j < q) || (List.range n).all fun i => Region.waitsFor md ops j i
def heldB (ops : Array Oper) (n q : Nat) : Bool :=
  Region.noSelect ops && decide (n ≤ q ∧ q ≤ ops.size) && lastB .any ops n q && Region.lexHead .any ops (ops.size - n) n 0 (Array.replicate ops.size false)

theorem wpAnyQ_lex {n g : Nat} {w : World} {Lq : Act → Prop} (hsel : Region.noSelect ops = true) (hnq : n ≤ q) (hlast : lastB md ops n q = true) (hQ : ∀ d v c a w, Q (.panic c) (Act.put a d v) w → Q (.panic c) a w) (hS : S w)
    (hL : ∀ listed a, Region.seqB md ops g n listed = true → Lq a → wpAnyQ P md ops Q S q g listed a w) :
    ∀ (l : List Oper) (k : Nat) (listed : Array Bool) (a : Act), (∀ j, j < l.length → l[j]? = ops[k + j]?) → k + l.length = n →
    Region.lexHead md ops g l.length k listed = true → wpTake P ops S Lq l a → wpAnyQ P md ops Q S q (l.length + g) listed a w
  | [], k, listed, a, _, hk, hB, h => by
    have : k = n := by simpa using hk
    subst this
    rw [List.length_nil, Nat.zero_add]
    exact hL listed a (by simpa [Region.lexHead] using hB) h
  | o :: l, k, listed, a, hl, hk, hB, h => by
    have h0 : ops[k]? = some o := by simpa using (hl 0 (by simp)).symm
    simp only [List.length_cons, Region.lexHead, Bool.and_eq_true] at hB
    obtain ⟨⟨hr, hf⟩, hB'⟩ := hB
    have hkn : k < n := by simp only [List.length_cons] at hk; omega
    have hr' : k ∈ Region.ready md ops listed := by simpa using hr
    obtain ⟨v, hy, hK⟩ := h
    rw [List.length_cons, show l.length + 1 + g = (l.length + g) + 1 by omega]
    refine wpAnyQ_first h0 (Region.noSelect_spec hsel) (hQ o.dst v) (fun j oj hj hoj => ?_) (by omega) (l.length + g) listed a w (Region.free_spec h0 hf) hr' hy hS
      (wpAnyQ_lex hsel hnq hlast hQ hS hL l (k + 1) _ _ (fun j hj => by have := hl (j + 1) (by simp; omega); simpa [Nat.add_assoc, Nat.add_comm 1 j] using this) (by simp only [List.length_cons] at hk; omega) hB' hK)
    have hjs : j < ops.size := (Array.getElem?_eq_some_iff.1 hoj).1
    have h1 := List.all_eq_true.1 hlast j (List.mem_range.2 hjs)
    simp only [Bool.or_eq_true, decide_eq_true_eq] at h1
    rcases h1 with h1 | h1
    · omega
    · have h2 := List.all_eq_true.1 h1 k (List.mem_range.2 hkn)
      obtain ⟨oj', hoj', e, he, hb, hon⟩ := Region.waitsFor_spec h2
      have : oj' = oj := Option.some.inj (hoj'.symm.trans hoj)
      subst this
      exact ⟨e, he, hb, hon⟩

theorem held_tail {id : Nat} {a : Act} {w : World} {l : List Oper} (n m : Nat) (S : World → Prop) (hm : P.follows .mixedOrders = true) (hB : heldB l.toArray n (n + m) = true)
    (hQ : ∀ d v c a w, Q (.panic c) (Act.put a d v) w → Q (.panic c) a w) (hS : S w.drew)
    (h : wpTake P l.toArray S (fun a' => wpTailS P l.toArray Q S m (l.drop n) a' w.drew) (l.take n) a) : (Code.region id l.toArray true).wp P Q a w := by
  simp only [heldB, Bool.and_eq_true, decide_eq_true_eq] at hB
  obtain ⟨⟨⟨hsel, hnq, hqs⟩, hlast⟩, hlex⟩ := hB
  have hn : n ≤ l.length := by simp at hqs; omega
  have htl : (l.take n).length = n := by simp; omega
  have hdl : (l.drop n).length = l.toArray.size - n := by simp
  have H := wpAnyQ_lex (P := P) (md := .any) (Q := Q) (S := S) (g := l.toArray.size - n) (w := w.drew) hsel hnq hlast hQ hS (fun listed a' hs hL => by
    have := wpAnyQ_of_tail (P := P) (md := .any) (Q := Q) (S := S) m (l.drop n) n listed a' w.drew (fun j => by simp [List.getElem?_drop]) rfl (by rw [hdl]; exact hs) hL
    rwa [hdl] at this) (l.take n) 0 _ a (fun j hj => by
    have hj' : j < n := by rw [htl] at hj; exact hj
    simp [hj']) (by simpa using htl) (by rw [htl]; exact hlex) h
  refine wp_region_any hm ?_
  have H2 := wpAny_of_Q _ _ _ _ H
  rw [htl, show n + (l.toArray.size - n) = l.toArray.size by simp; omega] at H2
  exact H2
end
end Go.Proofs.YtmmflekajbeamabGreatDoor

namespace Go.Proofs.YtmmflekajbeamabGreatDoor
open Go.RowKit

/-- A token: its text, the place of its first character, the place behind its last. -/
structure Tok where
  text : ByteArray
  fl : Int
  fc : Int
  bl : Int
  bc : Int
/-- The cutter's numbers and lists. -/
structure CS where
  ln : Int
  col : Int
  beg : Int
  fl : Int
  fc : Int
  rem : Bool
  line : List Tok
  lines : List (List Tok)

theorem ownsRow_keep {w w' : World} {B : Nat} {e : TypeId} {k : Nat} {v : Value} {n : Nat} {xs : List Value} (h : w.ownsRow B e k v n xs) (hk : ∀ g, v.ownBlock = some g → w'.heap[g]? = w.heap[g]?) : w'.ownsRow B e k v n xs := by
  refine ⟨h.1, ?_⟩
  rcases h.2 with h0 | ⟨g, cap, cur, rfl, hb, hg, h1, h2, h3, h4⟩
  · exact .inl h0
  · exact .inr ⟨g, cap, cur, rfl, hb, by rw [hk g rfl]; exact hg, h1, h2, h3, h4⟩

theorem cellD (w : World) (o : Obj) {N : Nat} (hN : N < w.heap.size) (j : Nat) : ((w.alloc o).drew).cell? ⟨N, j, none⟩ = w.cell? ⟨N, j, none⟩ := World.cell?_of_block (Below.heap_alloc w o N hN)
theorem ownsRow_cells {w : World} {B : Nat} {e : TypeId} {k : Nat} {v : Value} {n : Nat} {xs : List Value} (h : w.ownsRow B e k v n xs) : ∀ g, v.ownBlock = some g → B ≤ g ∧ ∃ cs t fr, w.heap[g]? = some (.cells cs t fr) := by
  intro g hg
  rcases h.2 with ⟨rfl, _⟩ | ⟨g', cap, cur, rfl, hb, hc, _⟩
  · cases hg
  · cases hg
    exact ⟨hb, cur, e, (0, 0), hc⟩
theorem ownsRow_kind {w : World} {B : Nat} {e : TypeId} {k : Nat} {v : Value} {n : Nat} {xs : List Value} (h : w.ownsRow B e k v n xs) : ∀ g, v.ownBlock = some g → ∃ cur, w.heap[g]? = some (.cells cur e (0, 0)) := by
  intro g hg
  rcases h.2 with ⟨rfl, _⟩ | ⟨g', cap, cur, rfl, hb, hc, _⟩
  · cases hg
  · cases hg
    exact ⟨cur, hc⟩
theorem cells_of_cell {w : World} {n i : Nat} {v : Value} (h : w.cell? ⟨n, i, none⟩ = some v) : ∃ c t fr, w.heap[n]? = some (.cells c t fr) := by
  unfold World.cell? at h
  cases hq : w.heap[n]? with
  | none => simp [hq] at h
  | some o => cases o <;> simp_all

theorem cell_of_rows {w : World} {N i j : Nat} {v u : Value} (hN : w.cell? ⟨N, j, none⟩ = some u) (h : j ≠ i) : (w.setCell ⟨N, i, none⟩ v).cell? ⟨N, j, none⟩ = some u := by
  obtain ⟨c, t, fr, hc⟩ := cells_of_cell hN
  rw [cell_of_row w N j c t fr hc] at hN
  rw [setCell_eq_setRow w N i c t fr v hc, cell_of_row _ N j _ t fr (setRow_heap w N c _ t fr hc)]
  rw [Array.getElem?_setIfInBounds_ne (fun e => h e.symm)]
  exact hN
theorem cell_set_same {w : World} {N i : Nat} {v u : Value} (hN : w.cell? ⟨N, i, none⟩ = some u) : (w.setCell ⟨N, i, none⟩ v).cell? ⟨N, i, none⟩ = some v := by
  obtain ⟨c, t, fr, hc⟩ := cells_of_cell hN
  rw [cell_of_row w N i c t fr hc] at hN
  rw [setCell_eq_setRow w N i c t fr v hc, cell_of_row _ N i _ t fr (setRow_heap w N c _ t fr hc)]
  rw [Array.getElem?_setIfInBounds_self_of_lt (Array.getElem?_eq_some_iff.1 hN).1]
theorem heap_set_other (w : World) {N i g : Nat} (v : Value) (h : g ≠ N) : (w.setCell ⟨N, i, none⟩ v).heap[g]? = w.heap[g]? := heap_setCell_other w ⟨N, i, none⟩ g v h
end Go.Proofs.YtmmflekajbeamabGreatDoor

namespace Go.Proofs.YtmmflekajbeamabGreatDoor
open Go.RowKit

end Go.Proofs.YtmmflekajbeamabGreatDoor

namespace Go.Proofs.YtmmflekajbeamabGreatDoor
open Go.RowKit

end Go.Proofs.YtmmflekajbeamabGreatDoor

namespace Go.Proofs.YtmmflekajbeamabGreatDoor
open Go.RowKit

def cs0 : CS := ⟨1, 1, -1, 0, 0, false, [], []⟩
theorem below_cell' {B : Nat} {W w1 : World} (hb : Below B W w1) (n i : Nat) (hn : n < B) : w1.cell? ⟨n, i, none⟩ = W.cell? ⟨n, i, none⟩ := hb.cell (p := ⟨n, i, none⟩) hn
end Go.Proofs.YtmmflekajbeamabGreatDoor

namespace Go.Proofs.YtmmflekajbeamabGreatDoor
open Go
/-- The byte at a place, as a number. -/
def bt (s : ByteArray) (i : Nat) : Nat := (s.get! i).toNat
theorem bt_lt (s : ByteArray) (i : Nat) : bt s i < 256 := (s.get! i).toNat_lt
end Go.Proofs.YtmmflekajbeamabGreatDoor

namespace Go.Proofs.YtmmflekajbeamabGreatDoor
open Go
/-- The document's tokens: texts and columns. -/
structure DS where
  l : List (ByteArray × Int)
  e : Int
  col : Int
  frm : Int
def d0 : DS := ⟨[], 1, 1, -1⟩
def fin (d : DS) : List (ByteArray × Int) × Int := (d.l, d.e)
end Go.Proofs.YtmmflekajbeamabGreatDoor

namespace Go.Proofs.YtmmflekajbeamabGreatDoor
open Go
end Go.Proofs.YtmmflekajbeamabGreatDoor

namespace Go.Proofs.YtmmflekajbeamabGreatDoor
open Go
end Go.Proofs.YtmmflekajbeamabGreatDoor

namespace Go.Proofs.YtmmflekajbeamabGreatDoor
open Go.RowKit

theorem bt_get (s : ByteArray) (i : Nat) (h : i < s.size) : (s[i]'h).toNat = bt s i := by
  have e : s.get! i = s.data[i]! := rfl
  unfold bt
  rw [e, getElem!_pos s.data i h]
  rfl

end Go.Proofs.YtmmflekajbeamabGreatDoor

namespace Go.Proofs.YtmmflekajbeamabGreatDoor
open Go.RowKit

end Go.Proofs.YtmmflekajbeamabGreatDoor

namespace Go.Proofs.YtmmflekajbeamabGreatDoor
open Go.RowKit Go.Maps

/-- What has been read of a text. -/
structure PS where
  words : List Int
  labels : List (List UInt8 × Int)
  uses : List (Nat × Tok)
theorem map_of {w : World} {b n : Nat} {D : DataW Unit} {k : TypeId} {R : Value → Option (DataW Unit × List MemPlace)} (h : w.ownsMap Tryz.prog k R b n D) : ∃ es cl, w.heap[b]? = some (.map es cl) := by
  obtain ⟨es, cl, hb, _⟩ := h
  exact ⟨es, cl, hb⟩
theorem map_keep {w w' : World} {b n : Nat} {D : DataW Unit} {k : TypeId} {R : Value → Option (DataW Unit × List MemPlace)} (h : w.ownsMap Tryz.prog k R b n D) (hk : w'.heap[b]? = w.heap[b]?) : w'.ownsMap Tryz.prog k R b n D := by
  obtain ⟨es, cl, hb, r⟩ := h
  exact ⟨es, cl, hk.trans hb, r⟩
theorem row_lt {w : World} {B : Nat} {e : TypeId} {k : Nat} {v : Value} {n : Nat} {xs : List Value} (h : w.ownsRow B e k v n xs) : ∀ g, v.ownBlock = some g → B ≤ g ∧ g < w.heap.size := fun g hg => by
  obtain ⟨hb, c, t, fr, hc⟩ := ownsRow_cells h g hg
  exact ⟨hb, (Array.getElem?_eq_some_iff.1 hc).1⟩
end Go.Proofs.YtmmflekajbeamabGreatDoor

namespace Go.Proofs.YtmmflekajbeamabGreatDoor
open Go.RowKit Go.Maps

theorem owns_len {w : World} {B : Nat} {e : TypeId} {k : Nat} {v : Value} {n : Nat} {xs : List Value} (h : w.ownsRow B e k v n xs) : ∃ a c, v = .slice a n c := by
  rcases h.2 with ⟨rfl, rfl⟩ | ⟨g', cap, cur, rfl, _⟩
  · exact ⟨none, 0, rfl⟩
  · exact ⟨_, _, rfl⟩
end Go.Proofs.YtmmflekajbeamabGreatDoor

namespace Go.Proofs.YtmmflekajbeamabGreatDoor
open Go.RowKit

theorem own_grow {w w1 : World} {B : Nat} {e : TypeId} {k : Nat} {v : Value} {n : Nat} {xs : List Value} (h : w.ownsRow B e k v n xs) (hb : Below w.heap.size w w1) : w1.ownsRow B e k v n xs := ownsRow_keep h (fun g hg => hb.block g (row_lt h g hg).2)

end Go.Proofs.YtmmflekajbeamabGreatDoor

namespace Go.Proofs.YtmmflekajbeamabGreatDoor
open Go.RowKit

theorem beN_succ (s : ByteArray) (i k : Nat) : beN s i (k + 1) = beN s i k * 256 + bt s (i + k) := rfl
theorem beN_le3 (s : ByteArray) (i k : Nat) (hk : k ≤ 3) : beN s i k < 16777216 := by
  have h := beN_lt s i k
  have : 256 ^ k ≤ 256 ^ 3 := Nat.pow_le_pow_right (by decide) hk
  omega

set_option maxRecDepth 100000 in
set_option maxHeartbeats 1000000 in
theorem numRead_any (t : ByteArray) (w : World) (ht : t.size ≤ 4) :
    Calls Tryz.prog 134 #[.string t] w fun e' w' => e' = .returned (.int .i64 (beN t 0 t.size)) ∧ w' = w := by
  go_enter Tryz.func134, Tryz.ntmps134
  go_wp2_with fail
  go_loop [3, 7] (fun v i => ∃ k : Nat, k ≤ t.size ∧ i = .int .i64 k ∧ v = .int .i64 (beN t 0 k)) (fun _ i => t.size - (intOf i).toNat)
  case atStart => exact ⟨0, Nat.zero_le _, rfl, rfl⟩
  case round =>
    obtain ⟨k, hk, rfl, rfl⟩ := hrel
    by_cases hlt : k < t.size
    · have hlt' : (k : Int) < (t.size : Int) := by omega
      have hgb := bt_get t k hlt
      have hbl := bt_lt t k
      have hv := beN_le3 t 0 k (by omega)
      have HS : Hid (beN t 0 (k + 1) = beN t 0 k * 256 + bt t k) := by unfold Hid; rw [beN_succ, Nat.zero_add]
      have ho : bits .or .i64 ((beN t 0 k : Int) * 256) (bt t k : Int) = (beN t 0 k : Int) * 256 + (bt t k : Int) := or_join _ _ 8 (by omega) (by omega) (by omega) (by omega) (by decide) (by omega)
      generalize beN t 0 k = v at *
      go_wp2_with fail
      refine ⟨⟨k + 1, by omega, by go_num, ?_⟩, by simp [intOf]; omega⟩
      rw [HS.out]
      go_num
    · have hkn : k = t.size := by omega
      subst hkn
      have hlt' : ¬ (t.size : Int) < (t.size : Int) := by omega
      go_wp2_with fail
      go_ret
      exact ⟨rfl, rfl⟩

/-- Is an OP arithmetic? -/
def arB (op : Int) : Bool := decide (2 ≤ op ∧ op ≤ 5)
set_option maxRecDepth 100000 in
set_option maxHeartbeats 1000000 in
theorem isArith_any (op : Int) (w : World) :
    Calls Tryz.prog 185 #[.int .i64 op] w fun e' w' => e' = .returned (.bool (arB op)) ∧ w' = w := by
  by_cases h : 2 ≤ op ∧ op ≤ 5
  · have h' : op = 2 ∨ op = 3 ∨ op = 4 ∨ op = 5 := by omega
    clear h
    rcases h' with rfl | rfl | rfl | rfl
    all_goals
      go_enter Tryz.func185, Tryz.ntmps185
      go_wp2_with fail
      go_ret
      exact ⟨rfl, rfl⟩
  · have HE : Hid (arB op = false) := by unfold Hid arB; simpa using fun h1 => (by omega : 5 < op)
    have h2 : (op == 2) = false := by simp; omega
    have h3 : (op == 3) = false := by simp; omega
    have h4 : (op == 4) = false := by simp; omega
    have h5 : (op == 5) = false := by simp; omega
    go_enter Tryz.func185, Tryz.ntmps185
    go_wp2_with fail
    go_ret
    exact ⟨ret_bool HE.out.symm, rfl⟩

def putV (p : PutN) : Array Value := #[.int .i64 p.kind, .int .i64 p.d, .int .i64 p.a, .int .i64 p.b, .int .i64 p.k]
theorem extr_get (s : ByteArray) (i n j : Nat) (hi : i + n ≤ s.size) (hj : j < n) : bt (s.extract i (i + n)) j = bt s (i + j) := by
  have h1 : j < (s.extract i (i + n)).size := by rw [ByteArray.size_extract]; omega
  rw [← bt_get _ j h1, ← bt_get s (i + j) (by omega)]
  rw [ByteArray.getElem_extract]
theorem extr_beN (s : ByteArray) (i n j : Nat) (hi : i + n ≤ s.size) : ∀ k, j + k ≤ n → beN (s.extract i (i + n)) j k = beN s (i + j) k := by
  intro k
  induction k with
  | zero => intro _; rfl
  | succ k ih =>
    intro hk
    rw [beN_succ, beN_succ, ih (by omega), extr_get s i n (j + k) hi (by omega), Nat.add_assoc]

end Go.Proofs.YtmmflekajbeamabGreatDoor

namespace Go.Proofs.YtmmflekajbeamabGreatDoor
open Go.RowKit

theorem crcF_snoc (l : List UInt8) (b : UInt8) : (l ++ [b]).foldl crcB 4294967295 = crcB (l.foldl crcB 4294967295) b := by simp
theorem take_bt {s : ByteArray} {k : Nat} (h : k < s.size) : (lst s).take (k + 1) = (lst s).take k ++ [s.get! k] := by
  have hl : k < (lst s).length := by rw [lst_len]; exact h
  rw [List.take_add_one, List.getElem?_eq_getElem hl]
  congr 1
  show [(lst s)[k]] = [s.data[k]!]
  rw [getElem!_pos s.data k h]
  simp [lst]
theorem xorZ_nat (x y : Nat) : xorZ (x : Int) (y : Int) = ((x ^^^ y : Nat) : Int) := by unfold xorZ; simp
theorem crcP_int : (3988292384 : Int) = ((crcP : Nat) : Int) := by unfold crcP; simp
theorem and_one (x : Nat) (h : x < 4294967296) : bits .and .u32 (x : Int) 1 = ((x % 2 : Nat) : Int) := by
  have h1 : (BitVec.ofInt 32 (x : Int)).toNat = x := by
    rw [BitVec.ofInt_natCast, BitVec.toNat_ofNat]; exact Nat.mod_eq_of_lt (by omega)
  have h2 : (BitVec.ofInt 32 1).toNat = 1 := by decide
  show IntKind.u32.wrap ((BitVec.ofInt 32 (x : Int) &&& BitVec.ofInt 32 1).toNat : Int) = _
  rw [BitVec.toNat_and, h1, h2, Nat.and_one_is_mod]
  simp [IntKind.wrap, IntKind.signed, IntKind.bits]
  omega
theorem not_nat {x : Nat} (h : x < 4294967296) : 4294967295 ^^^ x = 4294967295 - x := by
  have e : 4294967295 - x = 2 ^ 32 - (x + 1) := by omega
  have e2 : (4294967295 : Nat) = 2 ^ 32 - 1 := by decide
  rw [e]
  apply Nat.eq_of_testBit_eq
  intro i
  rw [Nat.testBit_two_pow_sub_succ (by omega), Nat.testBit_xor, e2, Nat.testBit_two_pow_sub_one]
  by_cases hi : i < 32
  · simp [hi]
  · have : x.testBit i = false := Nat.testBit_lt_two_pow (Nat.lt_of_lt_of_le (by omega : x < 2 ^ 32) (Nat.pow_le_pow_right (by decide) (by omega)))
    simp [hi, this]
theorem not_u32 (x : Nat) (h : x < 4294967296) : bits .xor .u32 IntKind.u32.max (x : Int) = 4294967295 - (x : Int) := by
  have e : IntKind.u32.max = ((4294967295 : Nat) : Int) := by decide
  rw [e, xor_u32 _ _ (by omega) (by omega) (by omega) (by omega), xorZ_nat, not_nat h]
  omega
theorem bit_of (B m : Nat) (hB : B < 256) : (wrap64 ((B : Int) / 2 ^ m)).tmod 2 = ((B / 2 ^ m % 2 : Nat) : Int) := by
  have e : (B : Int) / 2 ^ m = ((B / 2 ^ m : Nat) : Int) := by simp
  have hq : B / 2 ^ m ≤ B := Nat.div_le_self _ _
  rw [e]
  generalize B / 2 ^ m = q at *
  have hw : wrap64 (q : Int) = (q : Int) := by unfold wrap64; omega
  rw [hw, Int.tmod_eq_emod_of_nonneg (by omega)]
  omega
theorem rb_odd {x b : Nat} (h : x % 2 ≠ b % 2) : rb x b = x / 2 ^^^ crcP := by unfold rb; rw [if_pos h]
theorem rb_even {x b : Nat} (h : x % 2 = b % 2) : rb x b = x / 2 := by unfold rb; rw [if_neg (fun e => e h)]

set_option maxRecDepth 100000 in
set_option maxHeartbeats 1000000 in
theorem refSum_any (s : ByteArray) (w : World) (hs : s.size ≤ maxLen) :
    Calls Tryz.prog 164 #[.string s] w fun e' w' => e' = .returned (.int .i64 (crc (lst s) : Nat)) ∧ w' = w := by
  go_enter Tryz.func164, Tryz.ntmps164
  go_wp2_with fail
  go_loop [3, 4] (fun x i => ∃ k X : Nat, k ≤ s.size ∧ i = .int .i64 k ∧ x = .int .i64 X ∧ Hid (X = ((lst s).take k).foldl crcB 4294967295)) (fun _ i => s.size - (intOf i).toNat)
  case atStart => exact ⟨0, 4294967295, Nat.zero_le _, rfl, rfl, rfl⟩
  case round =>
    obtain ⟨k, X, hk, rfl, rfl, HX⟩ := hrel
    have hXl : X < 4294967296 := by rw [HX.out]; exact crcF_lt _ _ (by decide)
    by_cases hlt : k < s.size
    · have hlt' : (k : Int) < (s.size : Int) := by omega
      have HK2 : Hid (wrap64 ((k : Int) + 1) = (k : Int) + 1) := by unfold Hid wrap64; unfold maxLen at hs; omega
      have hgb := bt_get s k hlt
      have hbl := bt_lt s k
      have HN : Hid (crcB X (s.get! k) = ((lst s).take (k + 1)).foldl crcB 4294967295) := by unfold Hid; rw [take_bt hlt, crcF_snoc, HX.out]
      have HC : Hid (crcB X (s.get! k) = rbN (bt s k) 8 X) := rfl
      generalize bt s k = B at *
      go_wp2_with fail
      go_loop [3, 5] (fun x j => ∃ m Y : Nat, m ≤ 8 ∧ j = .int .i64 m ∧ x = .int .i64 Y ∧ Hid (Y = rbN B m X)) (fun _ j => 8 - (intOf j).toNat)
      case atStart => exact ⟨0, X, Nat.zero_le _, rfl, rfl, rfl⟩
      case round =>
        obtain ⟨m, Y, hm, rfl, rfl, HY⟩ := hrel
        have hYl : Y < 4294967296 := by rw [HY.out]; exact rbN_lt _ hXl _
        by_cases hml : m < 8
        · have hml' : (m : Int) < 8 := by omega
          have e1 := bit_of B m hbl
          have ex : bits .xor .i64 ((Y : Int) / 2) 3988292384 = ((Y / 2 ^^^ crcP : Nat) : Int) := by
            rw [xor_i64 _ _ (by omega) (by omega) (by decide) (by decide), show (Y : Int) / 2 = ((Y / 2 : Nat) : Int) by omega]
            rw [crcP_int]
            exact xorZ_nat (Y / 2) crcP
          have HR : Hid (rbN B (m + 1) X = rb Y (B / 2 ^ m)) := by unfold Hid; rw [rbN, HY.out]
          have HE := hide e1; have HEx := hide ex
          clear e1 ex HN HC HX
          go_wp2_with fail
          · rename_i hb
            rw [HE.out] at hb
            refine ⟨⟨m + 1, Y / 2 ^^^ crcP, by omega, by go_num, by rw [HEx.out], ?_⟩, by simp [intOf]; omega⟩
            unfold Hid
            rw [HR.out, rb_odd (by simp only [bne_iff_ne, ne_eq] at hb; omega)]
          · rename_i hb
            rw [HE.out] at hb
            refine ⟨⟨m + 1, Y / 2, by omega, by go_num, by rw [show (Y : Int) / 2 = ((Y / 2 : Nat) : Int) by omega], ?_⟩, by simp [intOf]; omega⟩
            unfold Hid
            rw [HR.out, rb_even (by simp only [bne_eq_false_iff_eq] at hb; omega)]
        · have hml' : ¬ (m : Int) < 8 := by omega
          have hm8 : m = 8 := by omega
          have HNx : Hid (Y = ((lst s).take (k + 1)).foldl crcB 4294967295) := by unfold Hid; rw [← HN.out, HC.out, HY.out, hm8]
          go_wp2_with fail
          rw [HK2.out]
          exact ⟨⟨k + 1, Y, by omega, by go_num, rfl, HNx.out⟩, by simp [intOf]; omega⟩
    · have hlt' : ¬ (k : Int) < (s.size : Int) := by omega
      have hke : k = s.size := by omega
      have HE : Hid ((crc (lst s) : Int) = 4294967295 - (X : Int)) := by
        unfold Hid crc crcG
        have := HX.out
        rw [hke, List.take_of_length_le (by rw [lst_len]; exact Nat.le_refl _)] at this
        rw [← this]
        omega
      go_wp2_with fail
      go_ret
      exact ⟨by rw [HE.out]; go_num, rfl⟩

set_option maxRecDepth 100000 in
set_option maxHeartbeats 1000000 in
theorem frSum_any (s : ByteArray) (w : World) (hs : s.size ≤ maxLen) :
    Calls Tryz.prog 131 #[.string s] w fun e' w' => e' = .returned (.int .i64 (crc (lst s) : Nat)) ∧ w' = w := by
  go_enter Tryz.func131, Tryz.ntmps131
  go_wp2_with fail
  go_loop [3, 8] (fun x i => ∃ k X : Nat, k ≤ s.size ∧ i = .int .i64 k ∧ x = .int .u32 X ∧ Hid (X = ((lst s).take k).foldl crcB 4294967295)) (fun _ i => s.size - (intOf i).toNat)
  case atStart => exact ⟨0, 4294967295, Nat.zero_le _, rfl, rfl, rfl⟩
  case round =>
    obtain ⟨k, X, hk, rfl, rfl, HX⟩ := hrel
    have hXl : X < 4294967296 := by rw [HX.out]; exact crcF_lt _ _ (by decide)
    by_cases hlt : k < s.size
    · have hlt' : (k : Int) < (s.size : Int) := by omega
      have HK2 : Hid (wrap64 ((k : Int) + 1) = (k : Int) + 1) := by unfold Hid wrap64; unfold maxLen at hs; omega
      have hgb := bt_get s k hlt
      have hbl := bt_lt s k
      have HN : Hid (crcB X (s.get! k) = ((lst s).take (k + 1)).foldl crcB 4294967295) := by unfold Hid; rw [take_bt hlt, crcF_snoc, HX.out]
      have HC : Hid (crcB X (s.get! k) = cbN 8 (X ^^^ bt s k)) := by unfold Hid; rw [← crcB_cb]; rfl
      have ex : bits .xor .u32 (X : Int) (bt s k : Int) = ((X ^^^ bt s k : Nat) : Int) := by
        rw [xor_u32 _ _ (by omega) (by omega) (by omega) (by omega)]
        exact xorZ_nat X _
      have hxl : X ^^^ bt s k < 4294967296 := Nat.xor_lt_two_pow (n := 32) (by omega) (by omega)
      have HK2 : Hid (wrap64 ((k : Int) + 1) = (k : Int) + 1) := by unfold Hid wrap64; unfold maxLen at hs; omega
      generalize bt s k = B at *
      go_wp2_with fail
      go_loop [3, 17] (fun x j => ∃ m Y : Nat, m ≤ 8 ∧ j = .int .i64 m ∧ x = .int .u32 Y ∧ Hid (Y = cbN m (X ^^^ B))) (fun _ j => 8 - (intOf j).toNat)
      case atStart => exact ⟨0, X ^^^ B, Nat.zero_le _, rfl, rfl, rfl⟩
      case round =>
        obtain ⟨m, Y, hm, rfl, rfl, HY⟩ := hrel
        have hYl : Y < 4294967296 := by rw [HY.out]; exact cbN_lt hxl _
        by_cases hml : m < 8
        · have hml' : (m : Int) < 8 := by omega
          have HR : Hid (cbN (m + 1) (X ^^^ B) = cb Y) := by unfold Hid; rw [cbN, HY.out]
          have HA := hide (and_one Y hYl)
          have HEx : Hid (bits .xor .u32 ((Y : Int) / 2) 3988292384 = ((Y / 2 ^^^ crcP : Nat) : Int)) := by
            unfold Hid
            rw [xor_u32 _ _ (by omega) (by omega) (by decide) (by decide), show (Y : Int) / 2 = ((Y / 2 : Nat) : Int) by omega, crcP_int]
            exact xorZ_nat (Y / 2) crcP
          clear hgb HN HC HX
          go_wp2_with fail
          · rename_i hb
            rw [HA.out] at hb
            refine ⟨⟨m + 1, Y / 2 ^^^ crcP, by omega, by go_num, by rw [HEx.out], ?_⟩, by simp [intOf]; omega⟩
            unfold Hid
            rw [HR.out, cb, if_pos (by simp only [beq_iff_eq] at hb; omega)]
          · rename_i hb
            rw [HA.out] at hb
            refine ⟨⟨m + 1, Y / 2, by omega, by go_num, by rw [show (Y : Int) / 2 = ((Y / 2 : Nat) : Int) by omega], ?_⟩, by simp [intOf]; omega⟩
            unfold Hid
            rw [HR.out, cb, if_neg (by simp only [beq_eq_false_iff_ne, ne_eq] at hb; omega)]
        · have hml' : ¬ (m : Int) < 8 := by omega
          have hm8 : m = 8 := by omega
          have HNx : Hid (Y = ((lst s).take (k + 1)).foldl crcB 4294967295) := by unfold Hid; rw [← HN.out, HC.out, HY.out, hm8]
          go_wp2_with fail
          rw [HK2.out]
          exact ⟨⟨k + 1, Y, by omega, by go_num, rfl, HNx.out⟩, by simp [intOf]; omega⟩
    · have hlt' : ¬ (k : Int) < (s.size : Int) := by omega
      have hke : k = s.size := by omega
      have HE : Hid ((crc (lst s) : Int) = 4294967295 - (X : Int)) := by
        unfold Hid crc crcG
        have := HX.out
        rw [hke, List.take_of_length_le (by rw [lst_len]; exact Nat.le_refl _)] at this
        rw [← this]
        omega
      have hnx := not_u32 X hXl
      go_wp2_with fail
      go_ret
      exact ⟨ret_int (by rw [HE.out]; unfold wrap64; omega), rfl⟩
end Go.Proofs.YtmmflekajbeamabGreatDoor
