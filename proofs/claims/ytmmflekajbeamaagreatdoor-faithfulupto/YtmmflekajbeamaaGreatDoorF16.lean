/-
  The program's device as package crib hands it out: NewDevice and the calls.
  The document's device (package cribref), as it lies in memory; a turn.
  As OrdR: the operations from q on need not wait for each reader themselves: they may wait for one that waits for it, and so on.
  The document's device: Add, Clear, Sync, Read, Trouble (package cribref).
  The document's device: a crash, byte by byte; a device that is new (package cribref).
  The two devices, the program's and the document's, tell the same: Sim and what every call makes of it.
  The law's stored: a call of one device, the program's and the document's.
  Lists that the caller writes full of a mark and appends marks to, of whatever elements: whatever they share, all of them read marks alone. E: the elements' type, k: their cells, mc: a mark's cells.
  The law's book, of whatever elements: the lists that came out, each beside what was appended to it.
  The law's own marks (markInt).
  The law's book of blocks and plans: marks, two lists the same (markPlan, samePlans).
  Frames: a copy of a text (strings.Clone), by the kit's own law of it; a block's words as a text again.
  Plans, the document's answer: are these the words of a block (IsBlock); what slots are at first (begin).
  Plans, the document's answer: what registers come to by puts and by words (byPuts, byWords).
  Plans, the document's answer: Accept.
  A state that is built out of its parts.
  Plans, the document's answer: a plan is done (cribref.Do).
  The law's book of puts: marks, two lists the same, a list that came out is written full of marks, appended to, and kept (markPut, samePuts, keepPuts).
  The law's book of puts: a list that came out is written full of marks, appended to, and kept (keepPuts).
  The law's book of puts: its looks (lookPuts, looks); Puts against the document's (putsOf).
  The law's accepts and does; a book of puts that is new.
-/
import Derived.Test.YtmmflekajbeamaaGreatDoorF15
import Derived.Test.YtmmflekajbeamaaGreatDoorF04
import Derived.Test.YtmmflekajbeamaaGreatDoorF05
import Derived.Maps.AppendAt
import Derived.Test.YtmmflekajbeamaaGreatDoorF03
import Derived.Test.YtmmflekajbeamaaGreatDoorF09
import Derived.Test.YtmmflekajbeamaaGreatDoorF14
import Derived.Shelf.Pu.Clone
import Derived.Test.YtmmflekajbeamaaGreatDoorF07
import Derived.Test.YtmmflekajbeamaaGreatDoorF10
import Derived.Test.YtmmflekajbeamaaGreatDoorF12
import Derived.Laws.Tables
import Derived.Deep.MidRow
namespace Go.Proofs.YtmmflekajbeamaaGreatDoor
open Go.RowKit

def dv0 : DvN := ⟨fun _ => [], fun _ => 0, 0, 0⟩
def nilV : Nat → Value := fun _ => .slice none 0 0
abbrev XAt (X D : Nat) (w : World) : Prop := w.cell? ⟨X, 0, none⟩ = some (.pointer (some ⟨D, 0, none⟩))

set_option maxRecDepth 100000 in
set_option maxHeartbeats 1000000 in
theorem newDevice_any (w : World) :
    Calls Tryz.prog 21 #[] w fun e' w' => e' = .returned (.pointer (some ⟨w.heap.size + 1, 0, none⟩)) ∧ DvAt w.heap.size dv0 nilV w' ∧ XAt (w.heap.size + 1) w.heap.size w' ∧ w'.heap.size = w.heap.size + 2 ∧ Below w.heap.size w w' := by
  have HN : Hid (∀ w, Calls Tryz.prog 49 #[] w fun e' w' => e' = .returned (.pointer (some ⟨w.heap.size, 0, none⟩)) ∧ w' = w.alloc (.cells #[.slice none 0 0, .int .i64 0, .slice none 0 0, .int .i64 0, .int .i64 0, .int .i64 0] 141)) := fun w => by
    go_enter Tryz.func49, Tryz.ntmps49
    go_wp2_with fail
    go_ret
    exact ⟨rfl, rfl⟩
  have HW : Hid (∀ W2, W2 = (w.alloc (.cells #[.slice none 0 0, .int .i64 0, .slice none 0 0, .int .i64 0, .int .i64 0, .int .i64 0] 141)).alloc (.cells #[.pointer (some ⟨w.heap.size, 0, none⟩)] 98) → DvAt w.heap.size dv0 nilV W2 ∧ XAt (w.heap.size + 1) w.heap.size W2 ∧ W2.heap.size = w.heap.size + 2 ∧ Below w.heap.size w W2) := fun W2 e => by
    obtain ⟨W1, hW1⟩ : ∃ W1, W1 = w.alloc (.cells #[.slice none 0 0, .int .i64 0, .slice none 0 0, .int .i64 0, .int .i64 0, .int .i64 0] 141) := ⟨_, rfl⟩
    rw [← hW1] at e
    have hs1 : W1.heap.size = w.heap.size + 1 := by rw [hW1, size_alloc1]
    have r1 : W1.heap[w.heap.size]? = some (.cells #[.slice none 0 0, .int .i64 0, .slice none 0 0, .int .i64 0, .int .i64 0, .int .i64 0] 141 (0, 0)) := by rw [hW1, _root_.Go.heap_alloc_new]
    have r2 : W2.heap[w.heap.size]? = some (.cells #[.slice none 0 0, .int .i64 0, .slice none 0 0, .int .i64 0, .int .i64 0, .int .i64 0] 141 (0, 0)) := by rw [e, Below.heap_alloc W1 _ _ (by omega)]; exact r1
    have rx : W2.heap[w.heap.size + 1]? = some (.cells #[.pointer (some ⟨w.heap.size, 0, none⟩)] 98 (0, 0)) := by rw [e, ← hs1, _root_.Go.heap_alloc_new]
    have hs2 : W2.heap.size = w.heap.size + 2 := by rw [e, size_alloc1, hs1]
    refine ⟨⟨by omega, fun j => by unfold World.frozen?; rw [r2]; simp, fun i hi => ?_, fun i hi => ?_, cell_row r2 4, cell_row r2 5, fun i hi => World.ownsRow_nil _ _ _ _, fun i hi => Nat.zero_le _, (fun i j _ _ _ g hg => by cases hg), by decide⟩, cell_row rx 0, hs2, ?_⟩
    · have : i = 0 ∨ i = 1 := by omega
      rcases this with rfl | rfl
      · exact cell_row r2 0
      · exact cell_row r2 2
    · have : i = 0 ∨ i = 1 := by omega
      rcases this with rfl | rfl
      · exact cell_row r2 1
      · exact cell_row r2 3
    · rw [e, hW1]
      exact ((Below.refl _ _).alloc (Nat.le_refl _) _).alloc (by rw [size_alloc1]; omega) _
  go_enter Tryz.func21, Tryz.ntmps21
  go_wp2_with fail
  refine (unhide HN _).mono ?_
  rintro e w1 ⟨rfl, hw1⟩
  subst hw1
  go_wp2_with fail
  go_ret
  exact ⟨rfl, HW.out _ rfl⟩
set_option maxRecDepth 100000 in
set_option maxHeartbeats 1000000 in
theorem within_any (X D : Nat) (w : World) (hx : XAt X D w) : Calls Tryz.prog 46 #[.pointer (some ⟨X, 0, none⟩)] w fun e' w' => e' = .returned (.pointer (some ⟨D, 0, none⟩)) ∧ w' = w := by
  go_enter Tryz.func46, Tryz.ntmps46
  go_wp2_with fail
  go_ret
  exact ⟨rfl, rfl⟩

set_option maxRecDepth 100000 in
set_option maxHeartbeats 1000000 in
theorem cAdd_any (X D : Nat) (d : DvN) (vs : Nat → Value) (i : Int) (s : ByteArray) (w : World) (hx : XAt X D w) (h : DvAt D d vs w) (hs : s.size ≤ 140737488351232) :
    Calls Tryz.prog 27 #[.pointer (some ⟨X, 0, none⟩), .int .i64 i, .string s] w (DPost D vs w (dAdd d i (lst s)).1 (dAdd d i (lst s)).2) := by
  have HW := hide (within_any X D w hx)
  have HC := hide (dAdd_any D d vs i s w h hs)
  clear hx h
  go_enter Tryz.func27, Tryz.ntmps27
  go_wp2_with fail
  refine (unhide HW).mono ?_
  rintro e w' ⟨rfl, hw⟩
  obtain rfl := hw.symm
  go_wp2_with fail
  refine (unhide HC).mono ?_
  rintro e w1 ⟨rfl, hp⟩
  have HP := hide hp
  clear hp
  go_wp2_with fail
  go_ret
  exact ⟨rfl, HP.out⟩
set_option maxRecDepth 100000 in
set_option maxHeartbeats 1000000 in
theorem cClear_any (X D : Nat) (d : DvN) (vs : Nat → Value) (i : Int) (w : World) (hx : XAt X D w) (h : DvAt D d vs w) :
    Calls Tryz.prog 28 #[.pointer (some ⟨X, 0, none⟩), .int .i64 i] w (DPost D vs w (dClear d i).1 (dClear d i).2) := by
  have HW := hide (within_any X D w hx)
  have HC := hide (dClear_any D d vs i w h)
  clear hx h
  go_enter Tryz.func28, Tryz.ntmps28
  go_wp2_with fail
  refine (unhide HW).mono ?_
  rintro e w' ⟨rfl, hw⟩
  obtain rfl := hw.symm
  go_wp2_with fail
  refine (unhide HC).mono ?_
  rintro e w1 ⟨rfl, hp⟩
  have HP := hide hp
  clear hp
  go_wp2_with fail
  go_ret
  exact ⟨rfl, HP.out⟩
set_option maxRecDepth 100000 in
set_option maxHeartbeats 1000000 in
theorem cSync_any (X D : Nat) (d : DvN) (vs : Nat → Value) (i : Int) (w : World) (hx : XAt X D w) (h : DvAt D d vs w) :
    Calls Tryz.prog 29 #[.pointer (some ⟨X, 0, none⟩), .int .i64 i] w (DPost D vs w (dSync d i).1 (dSync d i).2) := by
  have HW := hide (within_any X D w hx)
  have HC := hide (dSync_any D d vs i w h)
  clear hx h
  go_enter Tryz.func29, Tryz.ntmps29
  go_wp2_with fail
  refine (unhide HW).mono ?_
  rintro e w' ⟨rfl, hw⟩
  obtain rfl := hw.symm
  go_wp2_with fail
  refine (unhide HC).mono ?_
  rintro e w1 ⟨rfl, hp⟩
  have HP := hide hp
  clear hp
  go_wp2_with fail
  go_ret
  exact ⟨rfl, HP.out⟩
set_option maxRecDepth 100000 in
set_option maxHeartbeats 1000000 in
theorem cTrouble_any (X D : Nat) (d : DvN) (vs : Nat → Value) (k : Int) (w : World) (hx : XAt X D w) (h : DvAt D d vs w) (hk : k ≤ 9223372036854775807) :
    Calls Tryz.prog 26 #[.pointer (some ⟨X, 0, none⟩), .int .i64 k] w (DPost D vs w (dTrouble d k).1 (dTrouble d k).2) := by
  have HW := hide (within_any X D w hx)
  have HC := hide (dTrouble_any D d vs k w h hk)
  clear hx h
  go_enter Tryz.func26, Tryz.ntmps26
  go_wp2_with fail
  refine (unhide HW).mono ?_
  rintro e w' ⟨rfl, hw⟩
  obtain rfl := hw.symm
  go_wp2_with fail
  refine (unhide HC).mono ?_
  rintro e w1 ⟨rfl, hp⟩
  have HP := hide hp
  clear hp
  go_wp2_with fail
  go_ret
  exact ⟨rfl, HP.out⟩
set_option maxRecDepth 100000 in
set_option maxHeartbeats 1000000 in
theorem cRead_any (X D : Nat) (d : DvN) (vs : Nat → Value) (i : Int) (w : World) (hx : XAt X D w) (h : DvAt D d vs w) :
    Calls Tryz.prog 52 #[.pointer (some ⟨X, 0, none⟩), .int .i64 i] w fun e' w' => e' = .returned (.tuple #[.string (bya (dRead d i).1), .int .i64 (dRead d i).2.1]) ∧ ∃ vs', DvAt D (dRead d i).2.2 vs' w' ∧ DFr D vs vs' w w' := by
  have HW := hide (within_any X D w hx)
  have HC := hide (dRead_any D d vs i w h)
  clear hx h
  go_enter Tryz.func52, Tryz.ntmps52
  go_wp2_with fail
  refine (unhide HW).mono ?_
  rintro e w' ⟨rfl, hw⟩
  obtain rfl := hw.symm
  go_wp2_with fail
  refine (unhide HC).mono ?_
  rintro e w1 ⟨rfl, hp⟩
  have HP := hide hp
  clear hp
  go_wp2_with fail
  go_ret2
  exact ⟨rfl, HP.out⟩
set_option maxRecDepth 100000 in
set_option maxHeartbeats 1000000 in
theorem cCrash_any (X D : Nat) (d : DvN) (vs : Nat → Value) (keep : Int) (junk : ByteArray) (w : World) (hx : XAt X D w) (h : DvAt D d vs w) (hok : DvOK d) :
    Calls Tryz.prog 51 #[.pointer (some ⟨X, 0, none⟩), .int .i64 keep, .string junk] w fun e' w' => e' = .returned (.tuple #[]) ∧ ∃ vs', DvAt D (dCrash d keep (lst junk)) vs' w' ∧ DFr D vs vs' w w' := by
  have HW := hide (within_any X D w hx)
  have HC := hide (dCrash_any D d vs keep junk w h hok)
  clear hx h
  go_enter Tryz.func51, Tryz.ntmps51
  go_wp2_with fail
  refine (unhide HW).mono ?_
  rintro e w' ⟨rfl, hw⟩
  obtain rfl := hw.symm
  go_wp2_with fail
  refine (unhide HC).mono ?_
  rintro e w1 ⟨rfl, hp⟩
  have HP := hide hp
  clear hp
  go_wp2_with fail
  go_end0
  exact ⟨rfl, HP.out⟩
end Go.Proofs.YtmmflekajbeamaaGreatDoor

namespace Go.Proofs.YtmmflekajbeamaaGreatDoor
open Go.RowKit

/-- A device of the document: of each area what lasts and what does not yet; how many turns there were, which is to fail; the rest. -/
structure RvN where
  l : Nat → List UInt8
  t : Nat → List UInt8
  tu : Nat
  du : Nat
  cr : Int
  us : Int
  en : Int
structure RvAt (R : Nat) (r : RvN) (w : World) : Prop where
  lt : R < w.heap.size
  fz : ∀ j, w.frozen? ⟨R, j, none⟩ = false
  las : ∀ i, i < 2 → w.cell? ⟨R, i, none⟩ = some (.string (bya (r.l i)))
  lat : ∀ i, i < 2 → w.cell? ⟨R, 2 + i, none⟩ = some (.string (bya (r.t i)))
  tu : w.cell? ⟨R, 4, none⟩ = some (.int .i64 (r.tu : Int))
  du : w.cell? ⟨R, 5, none⟩ = some (.int .i64 (r.du : Int))
  cr : w.cell? ⟨R, 6, none⟩ = some (.int .i64 r.cr)
  us : w.cell? ⟨R, 7, none⟩ = some (.int .i64 r.us)
  en : w.cell? ⟨R, 8, none⟩ = some (.int .i64 r.en)
end Go.Proofs.YtmmflekajbeamaaGreatDoor

namespace Go.Proofs.YtmmflekajbeamaaGreatDoor
open Go

section
variable {P : Program} {ops : Array Oper} {Q : Exit → Act → World → Prop} {md : Region.Mode} {S : World → Prop} {q : Nat}

/-- j waits for i, or for one that does, within f steps. -/
def deepB (md : Region.Mode) (ops : Array Oper) : Nat → Nat → Nat → Bool
  | 0, _, _ => false
  | f + 1, j, i => (List.range ops.size).any fun k => Region.waitsFor md ops j k && (decide (k = i) || deepB md ops f k i)
/-- What waits for i is not listed yet. -/
def Late (md : Region.Mode) (ops : Array Oper) (F i : Nat) (listed : Array Bool) : Prop := ∀ f k, f ≤ F → deepB md ops f k i = true → listed.getD k true = false
theorem ready_deep {F i j : Nat} {listed : Array Bool} (hi : listed.getD i true = false) (hL : Late md ops F i listed) (hj : j ∈ Region.ready md ops listed) : ∀ f, f ≤ F → deepB md ops f j i = false := by
  intro f hf
  cases f with
  | zero => rfl
  | succ f =>
    cases h : deepB md ops (f + 1) j i with
    | false => rfl
    | true =>
      exfalso
      simp only [deepB, List.any_eq_true, Bool.and_eq_true, Bool.or_eq_true, decide_eq_true_eq] at h
      obtain ⟨k, _, hw, hk⟩ := h
      obtain ⟨hjun, oj, hoj, hall⟩ := mem_ready.1 hj
      obtain ⟨oj', hoj', e, he, hb, hon⟩ := Region.waitsFor_spec hw
      have : oj' = oj := Option.some.inj (hoj'.symm.trans hoj)
      subst this
      have h1 := hall e he hb
      rw [hon] at h1
      have h0 : listed.getD k true = false := by
        rcases hk with rfl | hk
        · exact hi
        · exact hL f k (by omega) hk
      rcases Nat.lt_or_ge k listed.size with h' | h'
      · simp [h'] at h0 h1; rw [h0] at h1; cases h1
      · simp [Array.getElem?_eq_none h'] at h1
theorem wpAnyQ_first2 {i F : Nat} {oi : Oper} {v : Value} (hi : ops[i]? = some oi) (hsel : ∀ (j : Nat) (o : Oper) cs b, ops[j]? = some o → o.op ≠ .select cs b)
    (hQ : ∀ c a w, Q (.panic c) (a.put oi.dst v) w → Q (.panic c) a w) (hlast : ∀ j, q ≤ j → j < ops.size → deepB md ops F j i = true) (hiq : i < q) :
    ∀ (fuel : Nat) (listed : Array Bool) (a : Act) (w : World),
      (∀ j oj, ops[j]? = some oj → j ≠ i → listed.getD j true = false → (∀ e ∈ oj.after, Region.binds md e = true → e.on ≠ i) → oi.apart ops oj = true) → Late md ops F i listed →
      i ∈ Region.ready md ops listed → YieldsIf P ops S oi v a → S w →
      wpAnyQ P md ops Q S q fuel (listed.setIfInBounds i true) (a.put oi.dst v) w → wpAnyQ P md ops Q S q (fuel + 1) listed a w := by
  intro fuel
  induction fuel with
  | zero =>
    intro listed a w _ _ hr hy hS H
    refine ⟨fun h => (by rw [h] at hr; cases hr), fun j hj => ?_⟩
    by_cases hji : j = i
    · subst hji; exact hy.wpOp hi hS ⟨fun _ => hS, H⟩
    · have := ready_mono hj hji
      rw [H.1] at this
      cases this
  | succ fuel ih =>
    intro listed a w hfree hL hr hy hS H
    refine ⟨fun h => (by rw [h] at hr; cases hr), fun j hj => ?_⟩
    by_cases hji : j = i
    · subst hji; exact hy.wpOp hi hS ⟨fun _ => hS, H⟩
    · have h1 := H.2 j (ready_mono hj hji)
      obtain ⟨hjun, oj, hoj, hall⟩ := mem_ready.1 hj
      have h0 : listed.getD i true = false := (mem_ready.1 hr).1
      have hnot : ∀ e ∈ oj.after, Region.binds md e = true → e.on ≠ i := fun e he hb heq => by
        have h1 := hall e he hb
        rw [heq] at h1
        rcases Nat.lt_or_ge i listed.size with h' | h'
        · simp [h'] at h0 h1; rw [h0] at h1; cases h1
        · simp [Array.getElem?_eq_none h'] at h1
      have hd := ready_deep h0 hL hj
      have hjs : j < ops.size := (Array.getElem?_eq_some_iff.1 hoj).1
      have hjq : j < q := by
        rcases Nat.lt_or_ge j q with h | h
        · exact h
        · have := hlast j h hjs
          rw [hd F (Nat.le_refl _)] at this
          cases this
      have h2 := wpOp_putIf hoj (hfree j oj hoj hji hjun hnot) (fun cs b => hsel i oi cs b hi) (fun cs b => hsel j oj cs b hoj) hQ hy h1
      have hfree' : ∀ k ok, ops[k]? = some ok → k ≠ i → (listed.setIfInBounds j true).getD k true = false →
          (∀ e ∈ ok.after, Region.binds md e = true → e.on ≠ i) → oi.apart ops ok = true := fun k ok hk hki hun hno => by
        refine hfree k ok hk hki ?_ hno
        by_cases hjk : j = k
        · subst hjk; exact hjun
        · rw [getD_set_ne true hjk] at hun; exact hun
      have hL' : Late md ops F i (listed.setIfInBounds j true) := fun f k hf hk => by
        by_cases hjk : j = k
        · subst hjk
          rw [hd f hf] at hk
          cases hk
        · rw [getD_set_ne true hjk]
          exact hL f k hf hk
      refine wpOp_mono (fun a' w' h3 => ⟨h3.2.1, ih (listed.setIfInBounds j true) a' w' hfree' hL' (ready_mono hr (Ne.symm hji)) h3.1 (h3.2.1 hjq) ?_⟩) h2
      rw [Array.setIfInBounds_comm _ _ hji]
      exact h3.2.2
def lateB (md : Region.Mode) (ops : Array Oper) (F i : Nat) (listed : Array Bool) : Bool := (List.range (F + 1)).all fun f => (List.range ops.size).all fun k => !deepB md ops f k i || !(listed.getD k true)
theorem deep_lt {f k i : Nat} (h : deepB md ops f k i = true) : k < ops.size := by
  cases f with
  | zero => cases h
  | succ f =>
    simp only [deepB, List.any_eq_true, Bool.and_eq_true] at h
    obtain ⟨m, _, hw, _⟩ := h
    obtain ⟨ok, hok, _⟩ := Region.waitsFor_spec hw
    exact (Array.getElem?_eq_some_iff.1 hok).1
theorem late_of {F i : Nat} {listed : Array Bool} (h : lateB md ops F i listed = true) : Late md ops F i listed := fun f k hf hk => by
  have h1 := List.all_eq_true.1 h f (List.mem_range.2 (by omega))
  have h2 := List.all_eq_true.1 h1 k (List.mem_range.2 (deep_lt hk))
  rw [hk] at h2
  simpa using h2
def headB2 (md : Region.Mode) (ops : Array Oper) (F : Nat) (ts : List Nat) : List Nat → Array Bool → Bool
  | [], listed => tailB md ops ts listed
  | i :: rs, listed => (Region.ready md ops listed).contains i && Region.free md ops listed i && lateB md ops F i listed && headB2 md ops F ts rs (listed.setIfInBounds i true)
theorem wpAnyQ_headI2 {ts : List Nat} {w : World} {F : Nat} (hsel : Region.noSelect ops = true) (hQ : ∀ d v c a w, Q (.panic c) (Act.put a d v) w → Q (.panic c) a w) (hS : S w) :
    ∀ (rs : List Nat) (listed : Array Bool) (a : Act), (rs.all fun i => decide (i < q) && (List.range ops.size).all fun j => decide (j < q) || deepB md ops F j i) = true → headB2 md ops F ts rs listed = true →
      wpTakeI P ops S (fun a' => wpTailI P ops Q S q ts a' w) rs a → wpAnyQ P md ops Q S q (rs.length + ts.length) listed a w
  | [], listed, a, _, hB, h => by
    rw [List.length_nil, Nat.zero_add]
    exact wpAnyQ_tailI ts listed a w hB h
  | i :: rs, listed, a, hl, hB, h => by
    simp only [headB2, Bool.and_eq_true] at hB
    simp only [List.all_cons, Bool.and_eq_true, decide_eq_true_eq] at hl
    obtain ⟨⟨⟨hr, hf⟩, hlt⟩, hB'⟩ := hB
    obtain ⟨o, v, h0, hy, hK⟩ := h
    rw [List.length_cons, show rs.length + 1 + ts.length = (rs.length + ts.length) + 1 by omega]
    refine wpAnyQ_first2 h0 (Region.noSelect_spec hsel) (hQ o.dst v) (fun j hj hjs => ?_) hl.1.1 (rs.length + ts.length) listed a w (Region.free_spec h0 hf) (late_of hlt) (by simpa using hr) hy hS (wpAnyQ_headI2 hsel hQ hS rs _ _ hl.2 hB' hK)
    have h1 := List.all_eq_true.1 hl.1.2 j (List.mem_range.2 hjs)
    simp only [Bool.or_eq_true, decide_eq_true_eq] at h1
    rcases h1 with h1 | h1
    · omega
    · exact h1
def planB2 (ops : Array Oper) (F : Nat) (rs ts : List Nat) (q : Nat) : Bool :=
  Region.noSelect ops && decide (rs.length + ts.length = ops.size) && (rs.all fun i => decide (i < q) && (List.range ops.size).all fun j => decide (j < q) || deepB .any ops F j i) && headB2 .any ops F ts rs (Array.replicate ops.size false)
theorem held_pick2 {id : Nat} {a : Act} {w : World} (F : Nat) (rs ts : List Nat) (q : Nat) (S : World → Prop) (hm : P.follows .mixedOrders = true) (hB : planB2 ops F rs ts q = true)
    (hQ : ∀ d v c a w, Q (.panic c) (Act.put a d v) w → Q (.panic c) a w) (hS : S w.drew)
    (h : wpTakeI P ops S (fun a' => wpTailI P ops Q S q ts a' w.drew) rs a) : (Code.region id ops true).wp P Q a w := by
  simp only [planB2, Bool.and_eq_true, decide_eq_true_eq] at hB
  obtain ⟨⟨⟨hsel, hlen⟩, hlast⟩, hhead⟩ := hB
  have H := wpAnyQ_headI2 (P := P) (md := .any) (Q := Q) (S := S) (q := q) (w := w.drew) hsel hQ hS rs _ a hlast hhead h
  refine wp_region_any hm ?_
  have H2 := wpAny_of_Q _ _ _ _ H
  rw [hlen] at H2
  exact H2
end
end Go.Proofs.YtmmflekajbeamaaGreatDoor

namespace Go.Proofs.YtmmflekajbeamaaGreatDoor
open Go.RowKit

theorem add_str (a b : List UInt8) (h : a.length + b.length ≤ 140737488355328) (w : World) : (Op.stringOp .add (bya a) (bya b)).run Tryz.prog w = .ok (.string (bya (a ++ b))) w := by
  rw [← bya_app]
  exact run_string_add_sum w _ _ (by rw [bya_size, bya_size]; omega)
end Go.Proofs.YtmmflekajbeamaaGreatDoor

namespace Go.Proofs.YtmmflekajbeamaaGreatDoor
open Go.RowKit

theorem measM {k m : Nat} {x : Int} (hx : x = ((m + 1 : Nat) : Int)) (h : m < k) : k - (intOf (.int .i64 x)).toNat < k - (intOf (.int .i64 (m : Int))).toNat := by
  subst hx
  simp only [intOf]
  omega
end Go.Proofs.YtmmflekajbeamaaGreatDoor

namespace Go.Proofs.YtmmflekajbeamaaGreatDoor
open Go.RowKit

structure Sim (d : DvN) (r : RvN) : Prop where
  b : ∀ i, i < 2 → d.b i = r.l i ++ r.t i
  n : ∀ i, i < 2 → d.n i = (r.l i).length
  t : (d.tr = 0 ∧ (r.du = 0 ∨ r.du ≤ r.tu)) ∨ (0 < d.tr ∧ r.du = r.tu + d.tr)
end Go.Proofs.YtmmflekajbeamaaGreatDoor

namespace Go.Proofs.YtmmflekajbeamaaGreatDoor
open Go.RowKit

/-- Where a pair of devices lies. -/
structure Pr where
  X : Nat
  D : Nat
  R : Nat
  vs : Nat → Value
  wk : Int
  us : Int
  en : Int
/-- The numbers that are told beside. -/
def Gh (p : Pr) (d : DvN) (r : RvN) : Prop := d.wk = p.wk ∧ r.us = p.us ∧ r.en = p.en
def Bd (p : Pr) (m : Nat) : Prop := 0 ≤ p.wk ∧ p.wk ≤ (m : Int) ∧ 0 ≤ p.en ∧ p.en ≤ (m : Int)
structure PrAt (p : Pr) (m : Nat) (w : World) : Prop where
  st : ∃ d r, DvAt p.D d p.vs w ∧ RvAt p.R r w ∧ Sim d r ∧ r.tu ≤ m ∧ Gh p d r
  bd : Bd p m
  x : XAt p.X p.D w
  xlt : p.X < w.heap.size
  dx : p.D < p.X
  dr : p.D < p.R
  xr : p.X ≠ p.R
  own : ∀ i, i < 2 → ∀ g, (p.vs i).ownBlock = some g → g ≠ p.X ∧ g ≠ p.R
/-- The boxes of a call of stored. -/
structure Bx (p : Pr) (k a : Int) (s : ByteArray) (m : Nat) (w W : World) : Prop where
  pr : PrAt p m W
  bel : Below w.heap.size w W
  size : W.heap.size = w.heap.size + 2
  c0 : W.cell? ⟨w.heap.size, 0, none⟩ = some (.pointer (some ⟨p.X, 0, none⟩))
  c1 : W.cell? ⟨w.heap.size, 1, none⟩ = some (.pointer (some ⟨p.R, 0, none⟩))
  o0 : W.cell? ⟨w.heap.size + 1, 0, none⟩ = some (.int .i64 k)
  o2 : W.cell? ⟨w.heap.size + 1, 2, none⟩ = some (.int .i64 a)
  o4 : W.cell? ⟨w.heap.size + 1, 4, none⟩ = some (.string s)
end Go.Proofs.YtmmflekajbeamaaGreatDoor

namespace Go.Proofs.YtmmflekajbeamaaGreatDoor
open Go.RowKit

section
variable {E : TypeId} {k : Nat} {mc : List Value}
end
end Go.Proofs.YtmmflekajbeamaaGreatDoor

namespace Go.Proofs.YtmmflekajbeamaaGreatDoor
open Go.RowKit

section
variable {fi : Nat} {T E : TypeId} {k : Nat} {mk : Nat → List Value} {N : Nat} {vs : List Value} {vi : Value}
end
end Go.Proofs.YtmmflekajbeamaaGreatDoor

namespace Go.Proofs.YtmmflekajbeamaaGreatDoor
open Go.RowKit

end Go.Proofs.YtmmflekajbeamaaGreatDoor

namespace Go.Proofs.YtmmflekajbeamaaGreatDoor
open Go.RowKit

theorem kn_cells {w : World} {B : Nat} {g cap : Nat} {l : List (List UInt8 × List UInt8)} (h : w.ownsRow B 127 2 (.slice (some ⟨g, 0, none⟩) l.length cap) l.length (knCs l)) (n : Nat) (x : List UInt8 × List UInt8) (hn : l[n]? = some x) :
    w.cell? ⟨g, n * 2, none⟩ = some (.string (bya x.1)) ∧ w.cell? ⟨g, n * 2 + 1, none⟩ = some (.string (bya x.2)) := by
  have hlt : n < l.length := (List.getElem?_eq_some_iff.1 hn).1
  have key := flat_atG (fun x : List UInt8 × List UInt8 => [Value.string (bya x.1), Value.string (bya x.2)]) 2 (fun _ => rfl) l n x hn
  refine ⟨?_, ?_⟩
  · rw [h.cellAt (n * 2) (by omega)]
    exact key 0 (by decide)
  · rw [h.cellAt (n * 2 + 1) (by omega)]
    exact key 1 (by decide)

end Go.Proofs.YtmmflekajbeamaaGreatDoor

namespace Go.Proofs.YtmmflekajbeamaaGreatDoor
open Go.RowKit Go.Shelf

def renC : Ren := ⟨fun _ => 257, fun t => if t = 0 then 0 else if t = 3 then 3 else if t = 4 then 4 else if t = 5 then 5 else if t = 9 then 9 else if t = 37 then 136 else 233, fun x => x⟩
set_option maxRecDepth 100000 in
theorem laysC : LaysPu.n25 Tryz.prog renC := by
  constructor <;> first | kernel_rfl | (intro w; kernel_rfl)
set_option maxRecDepth 100000 in
theorem clone_any (s : ByteArray) (w : World) (hs : s.size ≤ 2000000) :
    Calls Tryz.prog 245 #[.string s] w fun e' w' => e' = .returned (.string s) ∧ Below w.heap.size w w' := by
  have HC := hide (AnyPu.stringslite_Clone laysC s w (by omega))
  go_enter Tryz.func245, Tryz.ntmps245
  go_wp2_with fail
  refine (unhide HC).mono ?_
  rintro e w1 ⟨rfl, hb⟩
  have HB := hide hb
  clear hb
  go_wp2_with fail
  go_ret
  exact ⟨rfl, HB.out⟩
theorem numB_be (s : ByteArray) (i : Nat) : numB 4 (beN s i 4) = [s.get! i, s.get! (i + 1), s.get! (i + 2), s.get! (i + 3)] := by
  have h0 := (s.get! i).toNat_lt; have h1 := (s.get! (i + 1)).toNat_lt; have h2 := (s.get! (i + 2)).toNat_lt; have h3 := (s.get! (i + 3)).toNat_lt
  simp only [numB, beN, Nat.reducePow, Nat.div_one, Nat.add_zero]
  have e : ∀ (b : UInt8) (n : Nat), n = b.toNat → UInt8.ofNat n = b := fun b n h => by rw [h]; simp
  rw [e (s.get! i) _ (by omega), e (s.get! (i + 1)) _ (by omega), e (s.get! (i + 2)) _ (by omega), e (s.get! (i + 3)) _ (by omega)]
theorem wds_take (s : ByteArray) : ∀ k, 4 * k ≤ s.size → wdsT (blkL s k) = (lst s).take (4 * k) := by
  intro k
  induction k with
  | zero => intro _; simp [blkL, wdsT]
  | succ k ih =>
    intro hk
    rw [blkL_succ, wdsT_snoc, ih (by omega)]
    unfold wdAt
    rw [numB_be, show 4 * (k + 1) = 4 * k + 1 + 1 + 1 + 1 by omega, take_bt (by omega), take_bt (by omega), take_bt (by omega), take_bt (by omega)]
    simp
theorem wds_lst {s : ByteArray} (h : s.size % 4 = 0) : wdsT (blkL s (s.size / 4)) = lst s := by
  rw [wds_take s _ (by omega), List.take_of_length_le (by rw [lst_len]; omega)]
end Go.Proofs.YtmmflekajbeamaaGreatDoor

namespace Go.Proofs.YtmmflekajbeamaaGreatDoor
open Go.RowKit

end Go.Proofs.YtmmflekajbeamaaGreatDoor

namespace Go.Proofs.YtmmflekajbeamaaGreatDoor
open Go.RowKit

end Go.Proofs.YtmmflekajbeamaaGreatDoor

namespace Go.Proofs.YtmmflekajbeamaaGreatDoor
open Go.RowKit

end Go.Proofs.YtmmflekajbeamaaGreatDoor

namespace Go.Proofs.YtmmflekajbeamaaGreatDoor
open Go.RowKit

theorem fold_put (off : Nat) : ∀ (l : List Value) (i : Nat) (cs : Array Value), off + i + l.length ≤ cs.size → ((l.zipIdx i).foldl (fun cs x => cs.setIfInBounds (off + x.2) x.1) cs).size = cs.size ∧ ∀ j : Nat, ((l.zipIdx i).foldl (fun cs x => cs.setIfInBounds (off + x.2) x.1) cs)[j]? = if off + i ≤ j ∧ j < off + i + l.length then l[j - (off + i)]? else cs[j]? := by
  intro l
  induction l with
  | nil => intro i cs _; exact ⟨rfl, fun j => by rw [if_neg (by simp only [List.length_nil]; omega)]; rfl⟩
  | cons v l ih =>
    intro i cs h
    rw [List.length_cons] at h
    obtain ⟨h1, h2⟩ := ih (i + 1) (cs.setIfInBounds (off + i) v) (by rw [Array.size_setIfInBounds]; omega)
    rw [List.zipIdx_cons, List.foldl_cons]
    refine ⟨by rw [h1, Array.size_setIfInBounds], fun j => ?_⟩
    rw [h2, List.length_cons]
    by_cases hj : j = off + i
    · subst hj
      rw [if_neg (by omega), if_pos (by omega), Nat.sub_self, Array.getElem?_setIfInBounds, if_pos rfl, if_pos (by omega)]
      rfl
    · by_cases hj2 : off + (i + 1) ≤ j ∧ j < off + (i + 1) + l.length
      · rw [if_pos hj2, if_pos (by omega), show j - (off + i) = (j - (off + (i + 1))) + 1 by omega, List.getElem?_cons_succ]
      · rw [if_neg hj2, if_neg (by omega), Array.getElem?_setIfInBounds, if_neg (fun e => hj e.symm)]
/-- The cells of v laid into cs from off on. -/
def layA (off : Nat) (v cs : Array Value) : Array Value := v.zipIdx.foldl (fun cs x => cs.setIfInBounds (off + x.2) x.1) cs
theorem layA_eq (off : Nat) (v cs : Array Value) : layA off v cs = (v.toList.zipIdx 0).foldl (fun cs x => cs.setIfInBounds (off + x.2) x.1) cs := by
  unfold layA
  rw [← Array.foldl_toList, Array.toList_zipIdx]
theorem layA_size (off : Nat) (v cs : Array Value) (h : off + v.size ≤ cs.size) : (layA off v cs).size = cs.size := by
  rw [layA_eq]
  exact (fold_put off v.toList 0 cs (by simpa using h)).1
theorem layA_get (off : Nat) (v cs : Array Value) (h : off + v.size ≤ cs.size) (j : Nat) : (layA off v cs)[j]? = if off ≤ j ∧ j < off + v.size then v[j - off]? else cs[j]? := by
  rw [layA_eq, (fold_put off v.toList 0 cs (by simpa using h)).2 j]
  simp
end Go.Proofs.YtmmflekajbeamaaGreatDoor

namespace Go.Proofs.YtmmflekajbeamaaGreatDoor
open Go.RowKit

end Go.Proofs.YtmmflekajbeamaaGreatDoor

namespace Go.Proofs.YtmmflekajbeamaaGreatDoor
open Go.RowKit

end Go.Proofs.YtmmflekajbeamaaGreatDoor

namespace Go.Proofs.YtmmflekajbeamaaGreatDoor
open Go.RowKit

end Go.Proofs.YtmmflekajbeamaaGreatDoor

namespace Go.Proofs.YtmmflekajbeamaaGreatDoor
open Go.RowKit

end Go.Proofs.YtmmflekajbeamaaGreatDoor

namespace Go.Proofs.YtmmflekajbeamaaGreatDoor
open Go.RowKit

theorem range_row {w : World} {g : Nat} {t : TypeId} {z : List Int} (h : RowI w g t z) (o k : Nat) (ho : o + k ≤ z.length) : w.rangeAt g o (((z.drop o).take k).map (Value.int .i64)) := by
  intro j v hj
  have hlt := (List.getElem?_eq_some_iff.1 hj).1
  simp only [List.length_map, List.length_take, List.length_drop] at hlt
  rw [h.cell (o + j) (by omega)]
  rw [List.getElem?_map, List.getElem?_take, if_pos (by omega), List.getElem?_drop] at hj
  unfold gz
  rw [List.getD_eq_getElem?_getD]
  cases hq : z[o + j]? with
  | none => rw [hq] at hj; cases hj
  | some y => rw [hq] at hj; exact hj

end Go.Proofs.YtmmflekajbeamaaGreatDoor
