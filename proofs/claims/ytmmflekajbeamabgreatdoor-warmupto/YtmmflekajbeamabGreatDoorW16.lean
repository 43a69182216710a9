/-
  The program's device as package crib hands it out: NewDevice and the calls.
  The document's device (package cribref), as it lies in memory; a turn.
  As OrdR: the operations from q on need not wait for each reader themselves: they may wait for one that waits for it, and so on.
  The document's device: Add, Clear, Sync, Read, Trouble (package cribref).
  The document's device: a crash, byte by byte; a device that is new (package cribref).
  The two devices, the program's and the document's, tell the same: Sim and what every call makes of it.
  The law's stored: a call of one device, the program's and the document's.
  Lists that the caller writes full of a mark and appends marks to, of whatever elements: whatever they share, all of them read marks alone. E: the elements' type, k: their cells, mc: a mark's cells.
  The law's book, of whatever elements: the lists that came out, each beside what was appended to it.
  The law's own marks (markInt).
  The law's book of blocks and plans: marks, two lists the same (markPlan, samePlans).
  Plans, the document's answer: are these the words of a block (IsBlock); what slots are at first (begin).
  Plans, the document's answer: what registers come to by puts and by words (byPuts, byWords).
  Plans, the document's answer: Accept.
  A state that is built out of its parts.
  Plans, the document's answer: a plan is done (cribref.Do).
  The law's book of puts: marks, two lists the same, a list that came out is written full of marks, appended to, and kept (markPut, samePuts, keepPuts).
  The law's book of puts: a list that came out is written full of marks, appended to, and kept (keepPuts).
  The law's book of puts: its looks (lookPuts, looks); Puts against the document's (putsOf).
  The law's accepts and does; a book of puts that is new.
  Frames: an Entry frame is taken (takeEntry).
-/
import Derived.Test.YtmmflekajbeamabGreatDoorW13
import Derived.Test.YtmmflekajbeamabGreatDoorW04
import Derived.Test.YtmmflekajbeamabGreatDoorW05
import Derived.Maps.AppendAt
import Derived.Test.YtmmflekajbeamabGreatDoorW02
import Derived.Test.YtmmflekajbeamabGreatDoorW12
import Derived.Test.YtmmflekajbeamabGreatDoorW07
import Derived.Test.YtmmflekajbeamabGreatDoorW11
import Derived.Test.YtmmflekajbeamabGreatDoorW15
import Derived.Test.YtmmflekajbeamabGreatDoorW03
import Derived.Test.YtmmflekajbeamabGreatDoorW10
import Derived.Laws.Tables
import Derived.Deep.MidRow
import Derived.Test.YtmmflekajbeamabGreatDoorW14
import Derived.Deep.AppendLies
namespace Go.Proofs.YtmmflekajbeamabGreatDoor
open Go.RowKit

def dv0 : DvN := ⟨fun _ => [], fun _ => 0, 0, 0⟩
def nilV : Nat → Value := fun _ => .slice none 0 0
abbrev XAt (X D : Nat) (w : World) : Prop := w.cell? ⟨X, 0, none⟩ = some (.pointer (some ⟨D, 0, none⟩))

set_option maxRecDepth 100000 in
set_option maxHeartbeats 1000000 in
theorem newDevice_any (w : World) :
    Calls Tryz.prog 22 #[] w fun e' w' => e' = .returned (.pointer (some ⟨w.heap.size + 1, 0, none⟩)) ∧ DvAt w.heap.size dv0 nilV w' ∧ XAt (w.heap.size + 1) w.heap.size w' ∧ w'.heap.size = w.heap.size + 2 ∧ Below w.heap.size w w' := by
  have HN : Hid (∀ w, Calls Tryz.prog 44 #[] w fun e' w' => e' = .returned (.pointer (some ⟨w.heap.size, 0, none⟩)) ∧ w' = w.alloc (.cells #[.slice none 0 0, .int .i64 0, .slice none 0 0, .int .i64 0, .int .i64 0, .int .i64 0] 126)) := fun w => by
    go_enter Tryz.func44, Tryz.ntmps44
    go_wp2_with fail
    go_ret
    exact ⟨rfl, rfl⟩
  have HW : Hid (∀ W2, W2 = (w.alloc (.cells #[.slice none 0 0, .int .i64 0, .slice none 0 0, .int .i64 0, .int .i64 0, .int .i64 0] 126)).alloc (.cells #[.pointer (some ⟨w.heap.size, 0, none⟩)] 98) → DvAt w.heap.size dv0 nilV W2 ∧ XAt (w.heap.size + 1) w.heap.size W2 ∧ W2.heap.size = w.heap.size + 2 ∧ Below w.heap.size w W2) := fun W2 e => by
    obtain ⟨W1, hW1⟩ : ∃ W1, W1 = w.alloc (.cells #[.slice none 0 0, .int .i64 0, .slice none 0 0, .int .i64 0, .int .i64 0, .int .i64 0] 126) := ⟨_, rfl⟩
    rw [← hW1] at e
    have hs1 : W1.heap.size = w.heap.size + 1 := by rw [hW1, size_alloc1]
    have r1 : W1.heap[w.heap.size]? = some (.cells #[.slice none 0 0, .int .i64 0, .slice none 0 0, .int .i64 0, .int .i64 0, .int .i64 0] 126 (0, 0)) := by rw [hW1, _root_.Go.heap_alloc_new]
    have r2 : W2.heap[w.heap.size]? = some (.cells #[.slice none 0 0, .int .i64 0, .slice none 0 0, .int .i64 0, .int .i64 0, .int .i64 0] 126 (0, 0)) := by rw [e, Below.heap_alloc W1 _ _ (by omega)]; exact r1
    have rx : W2.heap[w.heap.size + 1]? = some (.cells #[.pointer (some ⟨w.heap.size, 0, none⟩)] 98 (0, 0)) := by rw [e, ← hs1, _root_.Go.heap_alloc_new]
    have hs2 : W2.heap.size = w.heap.size + 2 := by rw [e, size_alloc1, hs1]
    refine ⟨⟨by omega, fun j => by unfold World.frozen?; rw [r2]; simp, fun i hi => ?_, fun i hi => ?_, cell_row r2 4, cell_row r2 5, fun i hi => World.ownsRow_nil _ _ _ _, fun i hi => Nat.zero_le _, (fun i j _ _ _ g hg => by cases hg), by decide⟩, cell_row rx 0, hs2, ?_⟩
    · have : i = 0 ∨ i = 1 := by omega
      rcases this with rfl | rfl
      · exact cell_row r2 0
      · exact cell_row r2 2
    · have : i = 0 ∨ i = 1 := by omega
      rcases this with rfl | rfl
      · exact cell_row r2 1
      · exact cell_row r2 3
    · rw [e, hW1]
      exact ((Below.refl _ _).alloc (Nat.le_refl _) _).alloc (by rw [size_alloc1]; omega) _
  go_enter Tryz.func22, Tryz.ntmps22
  go_wp2_with fail
  refine (unhide HN _).mono ?_
  rintro e w1 ⟨rfl, hw1⟩
  subst hw1
  go_wp2_with fail
  go_ret
  exact ⟨rfl, HW.out _ rfl⟩
set_option maxRecDepth 100000 in
set_option maxHeartbeats 1000000 in
theorem within_any (X D : Nat) (w : World) (hx : XAt X D w) : Calls Tryz.prog 42 #[.pointer (some ⟨X, 0, none⟩)] w fun e' w' => e' = .returned (.pointer (some ⟨D, 0, none⟩)) ∧ w' = w := by
  go_enter Tryz.func42, Tryz.ntmps42
  go_wp2_with fail
  go_ret
  exact ⟨rfl, rfl⟩

set_option maxRecDepth 100000 in
set_option maxHeartbeats 1000000 in
theorem cAdd_any (X D : Nat) (d : DvN) (vs : Nat → Value) (i : Int) (s : ByteArray) (w : World) (hx : XAt X D w) (h : DvAt D d vs w) (hs : s.size ≤ 140737488351232) :
    Calls Tryz.prog 28 #[.pointer (some ⟨X, 0, none⟩), .int .i64 i, .string s] w (DPost D vs w (dAdd d i (lst s)).1 (dAdd d i (lst s)).2) := by
  have HW := hide (within_any X D w hx)
  have HC := hide (dAdd_any D d vs i s w h hs)
  clear hx h
  go_enter Tryz.func28, Tryz.ntmps28
  go_wp2_with fail
  refine (unhide HW).mono ?_
  rintro e w' ⟨rfl, hw⟩
  obtain rfl := hw.symm
  go_wp2_with fail
  refine (unhide HC).mono ?_
  rintro e w1 ⟨rfl, hp⟩
  have HP := hide hp
  clear hp
  go_wp2_with fail
  go_ret
  exact ⟨rfl, HP.out⟩
set_option maxRecDepth 100000 in
set_option maxHeartbeats 1000000 in
theorem cSync_any (X D : Nat) (d : DvN) (vs : Nat → Value) (i : Int) (w : World) (hx : XAt X D w) (h : DvAt D d vs w) :
    Calls Tryz.prog 29 #[.pointer (some ⟨X, 0, none⟩), .int .i64 i] w (DPost D vs w (dSync d i).1 (dSync d i).2) := by
  have HW := hide (within_any X D w hx)
  have HC := hide (dSync_any D d vs i w h)
  clear hx h
  go_enter Tryz.func29, Tryz.ntmps29
  go_wp2_with fail
  refine (unhide HW).mono ?_
  rintro e w' ⟨rfl, hw⟩
  obtain rfl := hw.symm
  go_wp2_with fail
  refine (unhide HC).mono ?_
  rintro e w1 ⟨rfl, hp⟩
  have HP := hide hp
  clear hp
  go_wp2_with fail
  go_ret
  exact ⟨rfl, HP.out⟩
set_option maxRecDepth 100000 in
set_option maxHeartbeats 1000000 in
theorem cRead_any (X D : Nat) (d : DvN) (vs : Nat → Value) (i : Int) (w : World) (hx : XAt X D w) (h : DvAt D d vs w) :
    Calls Tryz.prog 27 #[.pointer (some ⟨X, 0, none⟩), .int .i64 i] w fun e' w' => e' = .returned (.tuple #[.string (bya (dRead d i).1), .int .i64 (dRead d i).2.1]) ∧ ∃ vs', DvAt D (dRead d i).2.2 vs' w' ∧ DFr D vs vs' w w' := by
  have HW := hide (within_any X D w hx)
  have HC := hide (dRead_any D d vs i w h)
  clear hx h
  go_enter Tryz.func27, Tryz.ntmps27
  go_wp2_with fail
  refine (unhide HW).mono ?_
  rintro e w' ⟨rfl, hw⟩
  obtain rfl := hw.symm
  go_wp2_with fail
  refine (unhide HC).mono ?_
  rintro e w1 ⟨rfl, hp⟩
  have HP := hide hp
  clear hp
  go_wp2_with fail
  go_ret2
  exact ⟨rfl, HP.out⟩
set_option maxRecDepth 100000 in
set_option maxHeartbeats 1000000 in
theorem cCrash_any (X D : Nat) (d : DvN) (vs : Nat → Value) (keep : Int) (junk : ByteArray) (w : World) (hx : XAt X D w) (h : DvAt D d vs w) (hok : DvOK d) :
    Calls Tryz.prog 26 #[.pointer (some ⟨X, 0, none⟩), .int .i64 keep, .string junk] w fun e' w' => e' = .returned (.tuple #[]) ∧ ∃ vs', DvAt D (dCrash d keep (lst junk)) vs' w' ∧ DFr D vs vs' w w' := by
  have HW := hide (within_any X D w hx)
  have HC := hide (dCrash_any D d vs keep junk w h hok)
  clear hx h
  go_enter Tryz.func26, Tryz.ntmps26
  go_wp2_with fail
  refine (unhide HW).mono ?_
  rintro e w' ⟨rfl, hw⟩
  obtain rfl := hw.symm
  go_wp2_with fail
  refine (unhide HC).mono ?_
  rintro e w1 ⟨rfl, hp⟩
  have HP := hide hp
  clear hp
  go_wp2_with fail
  go_end0
  exact ⟨rfl, HP.out⟩
end Go.Proofs.YtmmflekajbeamabGreatDoor

namespace Go.Proofs.YtmmflekajbeamabGreatDoor
open Go.RowKit

/-- A device of the document: of each area what lasts and what does not yet; how many turns there were, which is to fail; the rest. -/
structure RvN where
  l : Nat → List UInt8
  t : Nat → List UInt8
  tu : Nat
  du : Nat
  cr : Int
  us : Int
  en : Int
structure RvAt (R : Nat) (r : RvN) (w : World) : Prop where
  lt : R < w.heap.size
  fz : ∀ j, w.frozen? ⟨R, j, none⟩ = false
  las : ∀ i, i < 2 → w.cell? ⟨R, i, none⟩ = some (.string (bya (r.l i)))
  lat : ∀ i, i < 2 → w.cell? ⟨R, 2 + i, none⟩ = some (.string (bya (r.t i)))
  tu : w.cell? ⟨R, 4, none⟩ = some (.int .i64 (r.tu : Int))
  du : w.cell? ⟨R, 5, none⟩ = some (.int .i64 (r.du : Int))
  cr : w.cell? ⟨R, 6, none⟩ = some (.int .i64 r.cr)
  us : w.cell? ⟨R, 7, none⟩ = some (.int .i64 r.us)
  en : w.cell? ⟨R, 8, none⟩ = some (.int .i64 r.en)
end Go.Proofs.YtmmflekajbeamabGreatDoor

namespace Go.Proofs.YtmmflekajbeamabGreatDoor
open Go

section
variable {P : Program} {ops : Array Oper} {Q : Exit → Act → World → Prop} {md : Region.Mode} {S : World → Prop} {q : Nat}

/-- j waits for i, or for one that does, within f steps. -/
def deepB (md : Region.Mode) (ops : Array Oper) : Nat → Nat → Nat → Bool
  | 0, _, _ => false
  | f + 1, j, i => (List.range ops.size).any fun k => Region.waitsFor md ops j k && (decide (k = i) || deepB md ops f k i)
/-- What waits for i is not listed yet. -/
def Late (md : Region.Mode) (ops : Array Oper) (F i : Nat) (listed : Array Bool) : Prop := ∀ f k, f ≤ F → deepB md ops f k i = true → listed.getD k true = false
theorem ready_deep {F i j : Nat} {listed : Array Bool} (hi : listed.getD i true = false) (hL : Late md ops F i listed) (hj : j ∈ Region.ready md ops listed) : ∀ f, f ≤ F → deepB md ops f j i = false := by
  intro f hf
  cases f with
  | zero => rfl
  | succ f =>
    cases h : deepB md ops (f + 1) j i with
    | false => rfl
    | true =>
      exfalso
      simp only [deepB, List.any_eq_true, Bool.and_eq_true, Bool.or_eq_true, decide_eq_true_eq] at h
      obtain ⟨k, _, hw, hk⟩ := h
      obtain ⟨hjun, oj, hoj, hall⟩ := mem_ready.1 hj
      obtain ⟨oj', hoj', e, he, hb, hon⟩ := Region.waitsFor_spec hw
      have : oj' = oj := Option.some.inj (hoj'.symm.trans hoj)
      subst this
      have h1 := hall e he hb
      rw [hon] at h1
      have h0 : listed.getD k true = false := by
        rcases hk with rfl | hk
        · exact hi
        · exact hL f k (by omega) hk
      rcases Nat.lt_or_ge k listed.size with h' | h'
      · simp [h'] at h0 h1; rw [h0] at h1; cases h1
      · simp [Array.getElem?_eq_none h'] at h1
theorem wpAnyQ_first2 {i F : Nat} {oi : Oper} {v : Value} (hi : ops[i]? = some oi) (hsel : ∀ (j : Nat) (o : Oper) cs b, ops[j]? = some o → o.op ≠ .select cs b)
    (hQ : ∀ c a w, Q (.panic c) (a.put oi.dst v) w → Q (.panic c) a w) (hlast : ∀ j, q ≤ j → j < ops.size → deepB md ops F j i = true) (hiq : i < q) :
    ∀ (fuel : Nat) (listed : Array Bool) (a : Act) (w : World),
      (∀ j oj, ops[j]? = some oj → j ≠ i → listed.getD j true = false → (∀ e ∈ oj.after, Region.binds md e = true → e.on ≠ i) → oi.apart ops oj = true) → Late md ops F i listed →
      i ∈ Region.ready md ops listed → YieldsIf P ops S oi v a → S w →
      wpAnyQ P md ops Q S q fuel (listed.setIfInBounds i true) (a.put oi.dst v) w → wpAnyQ P md ops Q S q (fuel + 1) listed a w := by
  intro fuel
  induction fuel with
  | zero =>
    intro listed a w _ _ hr hy hS H
    refine ⟨fun h => (by rw [h] at hr; cases hr), fun j hj => ?_⟩
    by_cases hji : j = i
    · subst hji; exact hy.wpOp hi hS ⟨fun _ => hS, H⟩
    · have := ready_mono hj hji
      rw [H.1] at this
      cases this
  | succ fuel ih =>
    intro listed a w hfree hL hr hy hS H
    refine ⟨fun h => (by rw [h] at hr; cases hr), fun j hj => ?_⟩
    by_cases hji : j = i
    · subst hji; exact hy.wpOp hi hS ⟨fun _ => hS, H⟩
    · have h1 := H.2 j (ready_mono hj hji)
      obtain ⟨hjun, oj, hoj, hall⟩ := mem_ready.1 hj
      have h0 : listed.getD i true = false := (mem_ready.1 hr).1
      have hnot : ∀ e ∈ oj.after, Region.binds md e = true → e.on ≠ i := fun e he hb heq => by
        have h1 := hall e he hb
        rw [heq] at h1
        rcases Nat.lt_or_ge i listed.size with h' | h'
        · simp [h'] at h0 h1; rw [h0] at h1; cases h1
        · simp [Array.getElem?_eq_none h'] at h1
      have hd := ready_deep h0 hL hj
      have hjs : j < ops.size := (Array.getElem?_eq_some_iff.1 hoj).1
      have hjq : j < q := by
        rcases Nat.lt_or_ge j q with h | h
        · exact h
        · have := hlast j h hjs
          rw [hd F (Nat.le_refl _)] at this
          cases this
      have h2 := wpOp_putIf hoj (hfree j oj hoj hji hjun hnot) (fun cs b => hsel i oi cs b hi) (fun cs b => hsel j oj cs b hoj) hQ hy h1
      have hfree' : ∀ k ok, ops[k]? = some ok → k ≠ i → (listed.setIfInBounds j true).getD k true = false →
          (∀ e ∈ ok.after, Region.binds md e = true → e.on ≠ i) → oi.apart ops ok = true := fun k ok hk hki hun hno => by
        refine hfree k ok hk hki ?_ hno
        by_cases hjk : j = k
        · subst hjk; exact hjun
        · rw [getD_set_ne true hjk] at hun; exact hun
      have hL' : Late md ops F i (listed.setIfInBounds j true) := fun f k hf hk => by
        by_cases hjk : j = k
        · subst hjk
          rw [hd f hf] at hk
          cases hk
        · rw [getD_set_ne true hjk]
          exact hL f k hf hk
      refine wpOp_mono (fun a' w' h3 => ⟨h3.2.1, ih (listed.setIfInBounds j true) a' w' hfree' hL' (ready_mono hr (Ne.symm hji)) h3.1 (h3.2.1 hjq) ?_⟩) h2
      rw [Array.setIfInBounds_comm _ _ hji]
      exact h3.2.2
def lateB (md : Region.Mode) (ops : Array Oper) (F i : Nat) (listed : Array Bool) : Bool := (List.range (F + 1)).all fun f => (List.range ops.size).all fun k => !deepB md ops f k i || !(listed.getD k true)
theorem deep_lt {f k i : Nat} (h : deepB md ops f k i = true) : k < ops.size := by
  cases f with
  | zero => cases h
  | succ f =>
    simp only [deepB, List.any_eq_true, Bool.and_eq_true] at h
    obtain ⟨m, _, hw, _⟩ := h
    obtain ⟨ok, hok, _⟩ := Region.waitsFor_spec hw
    exact (Array.getElem?_eq_some_iff.1 hok).1
theorem late_of {F i : Nat} {listed : Array Bool} (h : lateB md ops F i listed = true) : Late md ops F i listed := fun f k hf hk => by
  have h1 := List.all_eq_true.1 h f (List.mem_range.2 (by omega))
  have h2 := List.all_eq_true.1 h1 k (List.mem_range.2 (deep_lt hk))
  rw [hk] at h2
  simpa using h2
def headB2 (md : Region.Mode) (ops : Array Oper) (F : Nat) (ts : List Nat) : List Nat → Array Bool → Bool
  | [], listed => tailB md ops ts listed
  | i :: rs, listed => (Region.ready md ops listed).contains i && Region.free md ops listed i && lateB md ops F i listed && headB2 md ops F ts rs (listed.setIfInBounds i true)
theorem wpAnyQ_headI2 {ts : List Nat} {w : World} {F : Nat} (hsel : Region.noSelect ops = true) (hQ : ∀ d v c a w, Q (.panic c) (Act.put a d v) w → Q (.panic c) a w) (hS : S w) :
    ∀ (rs : List Nat) (listed : Array Bool) (a : Act), (rs.all fun i => decide (i < q) && (List.range ops.size).all fun j => decide (j < q) || deepB md ops F j i) = true → headB2 md ops F ts rs listed = true →
      wpTakeI P ops S (fun a' => wpTailI P ops Q S q ts a' w) rs a → wpAnyQ P md ops Q S q (rs.length + ts.length) listed a w
  | [], listed, a, _, hB, h => by
    rw [List.length_nil, Nat.zero_add]
    exact wpAnyQ_tailI ts listed a w hB h
  | i :: rs, listed, a, hl, hB, h => by
    simp only [headB2, Bool.and_eq_true] at hB
    simp only [List.all_cons, Bool.and_eq_true, decide_eq_true_eq] at hl
    obtain ⟨⟨⟨hr, hf⟩, hlt⟩, hB'⟩ := hB
    obtain ⟨o, v, h0, hy, hK⟩ := h
    rw [List.length_cons, show rs.length + 1 + ts.length = (rs.length + ts.length) + 1 by omega]
    refine wpAnyQ_first2 h0 (Region.noSelect_spec hsel) (hQ o.dst v) (fun j hj hjs => ?_) hl.1.1 (rs.length + ts.length) listed a w (Region.free_spec h0 hf) (late_of hlt) (by simpa using hr) hy hS (wpAnyQ_headI2 hsel hQ hS rs _ _ hl.2 hB' hK)
    have h1 := List.all_eq_true.1 hl.1.2 j (List.mem_range.2 hjs)
    simp only [Bool.or_eq_true, decide_eq_true_eq] at h1
    rcases h1 with h1 | h1
    · omega
    · exact h1
def planB2 (ops : Array Oper) (F : Nat) (rs ts : List Nat) (q : Nat) : Bool :=
  Region.noSelect ops && decide (rs.length + ts.length = ops.size) && (rs.all fun i => decide (i < q) && (List.range ops.size).all fun j => decide (j < q) || deepB .any ops F j i) && headB2 .any ops F ts rs (Array.replicate ops.size false)
theorem held_pick2 {id : Nat} {a : Act} {w : World} (F : Nat) (rs ts : List Nat) (q : Nat) (S : World → Prop) (hm : P.follows .mixedOrders = true) (hB : planB2 ops F rs ts q = true)
    (hQ : ∀ d v c a w, Q (.panic c) (Act.put a d v) w → Q (.panic c) a w) (hS : S w.drew)
    (h : wpTakeI P ops S (fun a' => wpTailI P ops Q S q ts a' w.drew) rs a) : (Code.region id ops true).wp P Q a w := by
  simp only [planB2, Bool.and_eq_true, decide_eq_true_eq] at hB
  obtain ⟨⟨⟨hsel, hlen⟩, hlast⟩, hhead⟩ := hB
  have H := wpAnyQ_headI2 (P := P) (md := .any) (Q := Q) (S := S) (q := q) (w := w.drew) hsel hQ hS rs _ a hlast hhead h
  refine wp_region_any hm ?_
  have H2 := wpAny_of_Q _ _ _ _ H
  rw [hlen] at H2
  exact H2
end
end Go.Proofs.YtmmflekajbeamabGreatDoor

namespace Go.Proofs.YtmmflekajbeamabGreatDoor
open Go.RowKit

theorem add_str (a b : List UInt8) (h : a.length + b.length ≤ 140737488355328) (w : World) : (Op.stringOp .add (bya a) (bya b)).run Tryz.prog w = .ok (.string (bya (a ++ b))) w := by
  rw [← bya_app]
  exact run_string_add_sum w _ _ (by rw [bya_size, bya_size]; omega)
end Go.Proofs.YtmmflekajbeamabGreatDoor

namespace Go.Proofs.YtmmflekajbeamabGreatDoor
open Go.RowKit

theorem measM {k m : Nat} {x : Int} (hx : x = ((m + 1 : Nat) : Int)) (h : m < k) : k - (intOf (.int .i64 x)).toNat < k - (intOf (.int .i64 (m : Int))).toNat := by
  subst hx
  simp only [intOf]
  omega
end Go.Proofs.YtmmflekajbeamabGreatDoor

namespace Go.Proofs.YtmmflekajbeamabGreatDoor
open Go.RowKit

structure Sim (d : DvN) (r : RvN) : Prop where
  b : ∀ i, i < 2 → d.b i = r.l i ++ r.t i
  n : ∀ i, i < 2 → d.n i = (r.l i).length
  t : (d.tr = 0 ∧ (r.du = 0 ∨ r.du ≤ r.tu)) ∨ (0 < d.tr ∧ r.du = r.tu + d.tr)
end Go.Proofs.YtmmflekajbeamabGreatDoor

namespace Go.Proofs.YtmmflekajbeamabGreatDoor
open Go.RowKit

/-- Where a pair of devices lies. -/
structure Pr where
  X : Nat
  D : Nat
  R : Nat
  vs : Nat → Value
  wk : Int
  us : Int
  en : Int
/-- The numbers that are told beside. -/
def Gh (p : Pr) (d : DvN) (r : RvN) : Prop := d.wk = p.wk ∧ r.us = p.us ∧ r.en = p.en
def Bd (p : Pr) (m : Nat) : Prop := 0 ≤ p.wk ∧ p.wk ≤ (m : Int) ∧ 0 ≤ p.en ∧ p.en ≤ (m : Int)
structure PrAt (p : Pr) (m : Nat) (w : World) : Prop where
  st : ∃ d r, DvAt p.D d p.vs w ∧ RvAt p.R r w ∧ Sim d r ∧ r.tu ≤ m ∧ Gh p d r
  bd : Bd p m
  x : XAt p.X p.D w
  xlt : p.X < w.heap.size
  dx : p.D < p.X
  dr : p.D < p.R
  xr : p.X ≠ p.R
  own : ∀ i, i < 2 → ∀ g, (p.vs i).ownBlock = some g → g ≠ p.X ∧ g ≠ p.R
/-- The boxes of a call of stored. -/
structure Bx (p : Pr) (k a : Int) (s : ByteArray) (m : Nat) (w W : World) : Prop where
  pr : PrAt p m W
  bel : Below w.heap.size w W
  size : W.heap.size = w.heap.size + 2
  c0 : W.cell? ⟨w.heap.size, 0, none⟩ = some (.pointer (some ⟨p.X, 0, none⟩))
  c1 : W.cell? ⟨w.heap.size, 1, none⟩ = some (.pointer (some ⟨p.R, 0, none⟩))
  o0 : W.cell? ⟨w.heap.size + 1, 0, none⟩ = some (.int .i64 k)
  o2 : W.cell? ⟨w.heap.size + 1, 2, none⟩ = some (.int .i64 a)
  o4 : W.cell? ⟨w.heap.size + 1, 4, none⟩ = some (.string s)
end Go.Proofs.YtmmflekajbeamabGreatDoor

namespace Go.Proofs.YtmmflekajbeamabGreatDoor
open Go.RowKit

section
variable {E : TypeId} {k : Nat} {mc : List Value}
end
end Go.Proofs.YtmmflekajbeamabGreatDoor

namespace Go.Proofs.YtmmflekajbeamabGreatDoor
open Go.RowKit

section
variable {fi : Nat} {T E : TypeId} {k : Nat} {mk : Nat → List Value} {N : Nat} {vs : List Value} {vi : Value}
end
end Go.Proofs.YtmmflekajbeamabGreatDoor

namespace Go.Proofs.YtmmflekajbeamabGreatDoor
open Go.RowKit

end Go.Proofs.YtmmflekajbeamabGreatDoor

namespace Go.Proofs.YtmmflekajbeamabGreatDoor
open Go.RowKit

theorem kn_cells {w : World} {B : Nat} {g cap : Nat} {l : List (List UInt8 × List UInt8)} (h : w.ownsRow B 71 2 (.slice (some ⟨g, 0, none⟩) l.length cap) l.length (knCs l)) (n : Nat) (x : List UInt8 × List UInt8) (hn : l[n]? = some x) :
    w.cell? ⟨g, n * 2, none⟩ = some (.string (bya x.1)) ∧ w.cell? ⟨g, n * 2 + 1, none⟩ = some (.string (bya x.2)) := by
  have hlt : n < l.length := (List.getElem?_eq_some_iff.1 hn).1
  have key := flat_atG (fun x : List UInt8 × List UInt8 => [Value.string (bya x.1), Value.string (bya x.2)]) 2 (fun _ => rfl) l n x hn
  refine ⟨?_, ?_⟩
  · rw [h.cellAt (n * 2) (by omega)]
    exact key 0 (by decide)
  · rw [h.cellAt (n * 2 + 1) (by omega)]
    exact key 1 (by decide)

end Go.Proofs.YtmmflekajbeamabGreatDoor

namespace Go.Proofs.YtmmflekajbeamabGreatDoor
open Go.RowKit

end Go.Proofs.YtmmflekajbeamabGreatDoor

namespace Go.Proofs.YtmmflekajbeamabGreatDoor
open Go.RowKit

end Go.Proofs.YtmmflekajbeamabGreatDoor

namespace Go.Proofs.YtmmflekajbeamabGreatDoor
open Go.RowKit

end Go.Proofs.YtmmflekajbeamabGreatDoor

namespace Go.Proofs.YtmmflekajbeamabGreatDoor
open Go.RowKit

theorem fold_put (off : Nat) : ∀ (l : List Value) (i : Nat) (cs : Array Value), off + i + l.length ≤ cs.size → ((l.zipIdx i).foldl (fun cs x => cs.setIfInBounds (off + x.2) x.1) cs).size = cs.size ∧ ∀ j : Nat, ((l.zipIdx i).foldl (fun cs x => cs.setIfInBounds (off + x.2) x.1) cs)[j]? = if off + i ≤ j ∧ j < off + i + l.length then l[j - (off + i)]? else cs[j]? := by
  intro l
  induction l with
  | nil => intro i cs _; exact ⟨rfl, fun j => by rw [if_neg (by simp only [List.length_nil]; omega)]; rfl⟩
  | cons v l ih =>
    intro i cs h
    rw [List.length_cons] at h
    obtain ⟨h1, h2⟩ := ih (i + 1) (cs.setIfInBounds (off + i) v) (by rw [Array.size_setIfInBounds]; omega)
    rw [List.zipIdx_cons, List.foldl_cons]
    refine ⟨by rw [h1, Array.size_setIfInBounds], fun j => ?_⟩
    rw [h2, List.length_cons]
    by_cases hj : j = off + i
    · subst hj
      rw [if_neg (by omega), if_pos (by omega), Nat.sub_self, Array.getElem?_setIfInBounds, if_pos rfl, if_pos (by omega)]
      rfl
    · by_cases hj2 : off + (i + 1) ≤ j ∧ j < off + (i + 1) + l.length
      · rw [if_pos hj2, if_pos (by omega), show j - (off + i) = (j - (off + (i + 1))) + 1 by omega, List.getElem?_cons_succ]
      · rw [if_neg hj2, if_neg (by omega), Array.getElem?_setIfInBounds, if_neg (fun e => hj e.symm)]
/-- The cells of v laid into cs from off on. -/
def layA (off : Nat) (v cs : Array Value) : Array Value := v.zipIdx.foldl (fun cs x => cs.setIfInBounds (off + x.2) x.1) cs
theorem layA_eq (off : Nat) (v cs : Array Value) : layA off v cs = (v.toList.zipIdx 0).foldl (fun cs x => cs.setIfInBounds (off + x.2) x.1) cs := by
  unfold layA
  rw [← Array.foldl_toList, Array.toList_zipIdx]
theorem layA_size (off : Nat) (v cs : Array Value) (h : off + v.size ≤ cs.size) : (layA off v cs).size = cs.size := by
  rw [layA_eq]
  exact (fold_put off v.toList 0 cs (by simpa using h)).1
theorem layA_get (off : Nat) (v cs : Array Value) (h : off + v.size ≤ cs.size) (j : Nat) : (layA off v cs)[j]? = if off ≤ j ∧ j < off + v.size then v[j - off]? else cs[j]? := by
  rw [layA_eq, (fold_put off v.toList 0 cs (by simpa using h)).2 j]
  simp
end Go.Proofs.YtmmflekajbeamabGreatDoor

namespace Go.Proofs.YtmmflekajbeamabGreatDoor
open Go.RowKit

end Go.Proofs.YtmmflekajbeamabGreatDoor

namespace Go.Proofs.YtmmflekajbeamabGreatDoor
open Go.RowKit

end Go.Proofs.YtmmflekajbeamabGreatDoor

namespace Go.Proofs.YtmmflekajbeamabGreatDoor
open Go.RowKit

end Go.Proofs.YtmmflekajbeamabGreatDoor

namespace Go.Proofs.YtmmflekajbeamabGreatDoor
open Go.RowKit

end Go.Proofs.YtmmflekajbeamabGreatDoor

namespace Go.Proofs.YtmmflekajbeamabGreatDoor
open Go.RowKit

theorem range_row {w : World} {g : Nat} {t : TypeId} {z : List Int} (h : RowI w g t z) (o k : Nat) (ho : o + k ≤ z.length) : w.rangeAt g o (((z.drop o).take k).map (Value.int .i64)) := by
  intro j v hj
  have hlt := (List.getElem?_eq_some_iff.1 hj).1
  simp only [List.length_map, List.length_take, List.length_drop] at hlt
  rw [h.cell (o + j) (by omega)]
  rw [List.getElem?_map, List.getElem?_take, if_pos (by omega), List.getElem?_drop] at hj
  unfold gz
  rw [List.getD_eq_getElem?_getD]
  cases hq : z[o + j]? with
  | none => rw [hq] at hj; cases hj
  | some y => rw [hq] at hj; exact hj

end Go.Proofs.YtmmflekajbeamabGreatDoor

namespace Go.Proofs.YtmmflekajbeamabGreatDoor
open Go.RowKit

def rEntry (a : ArN) (q : List UInt8) : Option ArN := if q ≠ [] ∧ 1 + 4 * (q.getD 0 0).toNat ≤ q.length ∧ blkB (bya ((q.drop 1).take (4 * (q.getD 0 0).toNat))) = true then some ⟨a.gen, a.whole, a.good + (q.length + 8), a.list ++ [((q.drop 1).take (4 * (q.getD 0 0).toNat), q.drop (1 + 4 * (q.getD 0 0).toNat))]⟩ else none
theorem infoKn : ∃ i, Tryz.prog.info? 71 = some i ∧ i.zero = some (.agg #[.string ⟨#[]⟩, .string ⟨#[]⟩]) ∧ i.size = 2 ∧ i.bytes = 32 := by
  have h : (Tryz.prog.info? 71).map (fun i => (i.zero, i.size, i.bytes)) = some (some (.agg #[.string ⟨#[]⟩, .string ⟨#[]⟩]), 2, 32) := by kernel_rfl
  cases hq : Tryz.prog.info? 71 with
  | none => rw [hq] at h; cases h
  | some i =>
    rw [hq] at h
    simp only [Option.map_some, Option.some.injEq, Prod.mk.injEq] at h
    exact ⟨i, rfl, h.1, h.2.1, h.2.2⟩
theorem ext_bh (D : ByteArray) (c : Nat) (h : 1 + c ≤ D.size) : lst ((D.extract 1 D.size).extract 0 c) = ((lst D).drop 1).take c ∧ lst ((D.extract 1 D.size).extract c (D.extract 1 D.size).size) = (lst D).drop (1 + c) := by
  have hz : (D.extract 1 D.size).size = D.size - 1 := by rw [ByteArray.size_extract]; omega
  refine ⟨?_, ?_⟩
  · rw [lst_ext, lst_ext, List.drop_zero, Nat.sub_zero, List.take_take, Nat.min_eq_left (by omega)]
  · rw [lst_ext, lst_ext, hz, List.drop_take, List.drop_drop, List.take_of_length_le (by rw [List.length_take, List.length_drop, lst_len]; omega), List.take_of_length_le (by rw [List.length_drop, lst_len]; omega)]

set_option maxRecDepth 100000 in
set_option maxHeartbeats 4000000 in
theorem takeEntry_any (A : Nat) (a : ArN) (v : Value) (K : Nat) (q : List UInt8) (n : Int) (w : World) (h : ArAt A a v w) (ht : Tab w) (hq2 : q.length ≤ 200) (hal : a.list.length ≤ 2000000) :
    Calls Tryz.prog 221 #[.pointer (some ⟨A, 0, none⟩), .agg #[.int .i64 (K : Int), .string (bya q), .int .i64 n]] w (TkPost A a v (rEntry a q) w) := by
  obtain ⟨inf, hinf, hzi, hsz1, hby⟩ := infoKn
  have HInf := hide hinf; have HZi := hide hzi; have HSz := hide hsz1; have HBy := hide hby
  clear hinf hzi hsz1 hby
  have hA := h.lt
  have HNo : Hid (∀ w', Below w.heap.size w w' → rEntry a q = none → TkPost A a v (rEntry a q) w (.returned (.bool false)) w') := fun w' hb hr => ⟨TkFr.of_above hA hb, .inr ⟨hr, rfl, h.above hb⟩⟩
  have HR : Hid (¬ (q ≠ [] ∧ 1 + 4 * (q.getD 0 0).toNat ≤ q.length ∧ blkB (bya ((q.drop 1).take (4 * (q.getD 0 0).toNat))) = true) → rEntry a q = none) := fun hc => if_neg hc
  have HY : Hid ((q ≠ [] ∧ 1 + 4 * (q.getD 0 0).toNat ≤ q.length ∧ blkB (bya ((q.drop 1).take (4 * (q.getD 0 0).toNat))) = true) → rEntry a q = some ⟨a.gen, a.whole, a.good + (q.length + 8), a.list ++ [((q.drop 1).take (4 * (q.getD 0 0).toNat), q.drop (1 + 4 * (q.getD 0 0).toNat))]⟩) := fun hc => if_pos hc
  have hzq : (bya q).size = q.length := bya_size q
  have hc0 : (q.getD 0 0).toNat = bt (bya q) 0 := by rw [← bya_get]; rfl
  have hlD : lst (bya q) = q := lst_bya q
  have hqbT : q = [] → ((bya q).toList == ([] : List UInt8)) = true := fun e => by rw [e, ByteArray.toList_eq, bya_list]; rfl
  have hqbF : q ≠ [] → ((bya q).toList == ([] : List UInt8)) = false := bya_ne
  rw [hc0] at HR HY
  generalize bya q = D at *
  generalize rEntry a q = R at *
  have HB0 := hide ((Below.refl w.heap.size w).alloc (Nat.le_refl _) (.cells #[.int .i64 (K : Int), .string D, .int .i64 n] 240))
  by_cases hqe : q = []
  · have HN := hide (HR.out (fun hh => hh.1 hqe))
    have hqb := hqbT hqe
    clear hlD hzq
    go_enter Tryz.func221, Tryz.ntmps221
    go_wp2_with fail
    go_ret
    exact HNo.out _ HB0.out HN.out
  have hqb := hqbF hqe
  have hq1 : 1 ≤ q.length := by cases q with | nil => exact absurd rfl hqe | cons _ _ => simp
  have hD0 : 0 < D.size := by omega
  have hg0 := bt_get D 0 hD0
  have hbl := bt_lt D 0
  have hbz : (D.extract 1 D.size).size = q.length - 1 := by rw [ByteArray.size_extract]; omega
  have v1 : IntKind.i64.wrap (bt D 0 : Int) = (bt D 0 : Int) := by rw [IntKind.wrap_i64]; omega
  have hD1 : (1 : Int) ≤ (D.size : Int) := by omega
  by_cases hcl : q.length < 1 + 4 * bt D 0
  · have HN := hide (HR.out (fun hh => by have := hh.2.1; omega))
    have hgt : (((D.extract 1 D.size).size : Nat) : Int) < (bt D 0 : Int) * 4 := by omega
    have HZ := hide hbz; have HZq := hide hzq
    clear hbz hzq hc0 hlD hqbT hqbF HY
    generalize bt D 0 = c at *
    go_enter Tryz.func221, Tryz.ntmps221
    go_upto_region 3 with fail
    go_quiet (fail)
    have HB1 := hide (below_drewN HB0.out nq)
    generalize (w.alloc (.cells #[.int .i64 (K : Int), .string D, .int .i64 n] 240)).drewN nq = w1 at *
    generalize D.extract 1 D.size = Bh at *
    go_wp2_with fail
    go_ret
    exact HNo.out _ HB1.out HN.out
  have hle : ¬ (((D.extract 1 D.size).size : Nat) : Int) < (bt D 0 : Int) * 4 := by omega
  have hle2 : (bt D 0 : Int) * 4 ≤ (((D.extract 1 D.size).size : Nat) : Int) := by omega
  have v2 : ((bt D 0 : Int) * 4).toNat = 4 * bt D 0 := by omega
  have v3 : (0 : Int) ≤ (bt D 0 : Int) * 4 := by omega
  obtain ⟨x1, x2⟩ := ext_bh D (4 * bt D 0) (by omega)
  rw [hlD] at x1 x2
  have hWz : ((D.extract 1 D.size).extract 0 (4 * bt D 0)).size ≤ maxLen := by rw [ByteArray.size_extract]; unfold maxLen; omega
  have HRd := hide (fun w' (hb : Below w.heap.size w w') => blkRead_any ((D.extract 1 D.size).extract 0 (4 * bt D 0)) w' (ht.below ht.pos hb) hWz)
  have hPz : ((D.extract 1 D.size).extract (4 * bt D 0) (D.extract 1 D.size).size).size ≤ 2000000 := by rw [ByteArray.size_extract]; omega
  have HCl := hide (fun w' => clone_any ((D.extract 1 D.size).extract (4 * bt D 0) (D.extract 1 D.size).size) w' hPz)
  have HZ := hide hbz; have HZq := hide hzq; have HX1 := hide x1; have HX2 := hide x2
  have HQe := hide hqe; have HCl2 := hide hcl
  clear hbz hzq hc0 hlD hqbT hqbF x1 x2 hqe hcl
  generalize bt D 0 = c at *
  go_enter Tryz.func221, Tryz.ntmps221
  go_upto_region 3 with fail
  go_quiet (fail)
  have HB1 := hide (below_drewN HB0.out nq)
  generalize (w.alloc (.cells #[.int .i64 (K : Int), .string D, .int .i64 n] 240)).drewN nq = w1 at *
  generalize D.extract 1 D.size = Bh at *
  go_wp2_with fail
  refine (unhide HRd _ HB1.out).mono ?_
  rintro e w2 ⟨hb2, ⟨hok, rfl⟩ | ⟨hno, rfl⟩⟩
  rotate_left
  · have HN : Hid (R = none) := HR.out (fun hh => hno (by
      have := (blkB_iff _).1 hh.2.2
      rw [← HX1.out, bya_lst] at this
      exact this))
    have HB2 : Hid (Below w.heap.size w w2) := HB1.out.trans (hb2.mono HB1.out.size)
    have HB3 : Hid (Below w.heap.size w (w2.alloc (.cells (S (wdZ [])) 131))) := HB2.out.alloc HB2.out.size _
    have z9 := zero9
    clear hb2 hno HRd HCl
    go_wp2_with (refine wpList_storeR size9 rfl _ _ rfl w2.heap.size rfl (wdZ []) rfl rfl (by rw [isRowB_alloc_at _ _ _ _ _ rfl]; rfl) _ (setRow_alloc_at _ _ _ _ _ rfl) ?_)
    go_ret
    exact HNo.out _ HB3.out HN.out
  have hwl : (blkL (Bh.extract 0 (4 * c)) ((Bh.extract 0 (4 * c)).size / 4)).length ≤ 8 := by rw [blkL_len]; have := hok.2.1; omega
  have hwb := blkL_bd (Bh.extract 0 (4 * c)) ((Bh.extract 0 (4 * c)).size / 4)
  have HTx := hide (fun w' => wdText_any (blkL (Bh.extract 0 (4 * c)) ((Bh.extract 0 (4 * c)).size / 4)) w' hwl hwb)
  rw [wds_lst hok.2.2.1] at HTx
  have hzl := wdZ_len hwl
  have HRs : Hid (R = some ⟨a.gen, a.whole, a.good + (q.length + 8), a.list ++ [(lst (Bh.extract 0 (4 * c)), lst (Bh.extract (4 * c) Bh.size))]⟩) := by
    unfold Hid
    rw [HX1.out, HX2.out]
    refine HY.out ⟨HQe.out, by have := HCl2.out; omega, (blkB_iff _).2 ?_⟩
    rw [← HX1.out, bya_lst]
    exact hok
  have HB2 : Hid (Below w.heap.size w w2) := HB1.out.trans (hb2.mono HB1.out.size)
  have HB3 : Hid (Below w.heap.size w (w2.alloc (.cells (S (wdZ (blkL (Bh.extract 0 (4 * c)) ((Bh.extract 0 (4 * c)).size / 4)))) 131))) := HB2.out.alloc HB2.out.size _
  have HWd : Hid (RowI (w2.alloc (.cells (S (wdZ (blkL (Bh.extract 0 (4 * c)) ((Bh.extract 0 (4 * c)).size / 4)))) 131)) w2.heap.size 131 (wdZ (blkL (Bh.extract 0 (4 * c)) ((Bh.extract 0 (4 * c)).size / 4)))) := _root_.Go.heap_alloc_new w2 _
  have z9 := zero9
  have hz2 := HB2.out.size
  clear hb2 hok HRd HR HY HX1 HX2 hwl hwb
  generalize wdZ (blkL (Bh.extract 0 (4 * c)) ((Bh.extract 0 (4 * c)).size / 4)) = zw at *
  go_wp2_with (refine wpList_storeR size9 rfl _ _ rfl w2.heap.size rfl zw rfl hzl (by rw [isRowB_alloc_at _ _ _ _ _ rfl]; rfl) _ (setRow_alloc_at _ _ _ _ _ rfl) ?_)
  refine (unhide HCl _).mono ?_
  rintro e w4 ⟨rfl, hb4⟩
  have hz4 := hb4.size
  rw [size_alloc1] at hz4
  have HB4 : Hid (Below w.heap.size w w4) := HB3.out.trans (hb4.mono (by rw [size_alloc1]; omega))
  have a4 := h.above HB4.out
  have r4 := HWd.out.keep (hb4.block _ (by rw [size_alloc1]; omega))
  have HR4 := hide r4
  have c3 : w4.cell? ⟨A, 3, none⟩ = some v := a4.cell 3
  have HA4 := hide a4
  clear hb4 a4 r4 HCl
  go_upto_region 10 with fail
  refine held_pick [0, 1, 2, 3, 4, 5, 7] [6, 8, 9, 10, 11, 12, 13] 11 (fun w' => w'.cell? ⟨A, 3, none⟩ = some v ∧ RowI w' w2.heap.size 131 zw) (by kernel_rfl) (by kernel_rfl) (fun d _ _ _ _ h => by cases d <;> exact h) ⟨c3, HR4.out⟩ ?_
  iterate 5
    refine wpTakeI_step ?_ rfl rfl ?_ ?_
    rotate_left
    · rintro w' ⟨d0, d1⟩
      go_simp
      rfl
    go_simp
  refine ⟨_, .agg (S zw), rfl, yieldsIf_load_mid rfl 131 _ rfl w2.heap.size 0 rfl (zw.map (Value.int .i64)) _ (fun w' hS => by have := range_row hS.2 0 9 (by omega); rw [List.drop_zero, List.take_of_length_le (by omega)] at this; exact this) Tryz.underlying131 rfl (by rw [size9, List.length_map, hzl]), ?_⟩
  go_simp
  refine wpTakeI_step ?_ rfl rfl ?_ ?_
  rotate_left
  · rintro w' ⟨d0, d1⟩
    go_simp
    rfl
  go_simp
  refine wpTakeI_nil ?_
  refine wpTailI_step rfl rfl (fun K hK => ?_)
  go_simp
  refine (unhide HTx _).mono ?_
  rintro e w5 ⟨rfl, hb5⟩
  rw [bya_lst]
  have HB5 : Hid (Below w4.heap.size w4 w5) := (show Below w4.heap.size w4 w4.drew from (Below.refl _ w4).drew).trans hb5
  have hA4 : A < w4.heap.size := by have := HB4.out.size; omega
  have a5 := HA4.out.above HB5.out
  have HA5 := hide a5
  have c5 : w5.cell? ⟨A, 3, none⟩ = some v := a5.cell 3
  have HR5 := hide (HR4.out.keep (HB5.out.block _ (by omega)))
  refine hK _ _ (fun _ => ⟨c5, HR5.out⟩) ?_
  clear hK K hb5 a5 HTx
  refine wpTailI_step rfl rfl (fun K hK => ?_)
  go_simp
  refine hK _ _ (fun _ => ⟨c5, HR5.out⟩) ?_
  clear hK K
  have hz5 := HB5.out.size
  have HOv := hide h.list
  refine wpTailI_step rfl rfl (fun K hK => ?_)
  go_simp
  refine hK _ _ (fun _ => ⟨(World.cell?_of_block (Below.heap_alloc w5 _ A (by omega))).trans c5, HR5.out.keep (Below.heap_alloc w5 _ _ (by omega))⟩) ?_
  clear hK K
  refine wpTailI_step rfl rfl (fun K hK => ?_)
  refine wp_append_lies _ _ _ 37 rfl (A + 1) 71 inf _ 2 32 Tryz.underlying37 HInf.out HZi.out HSz.out HBy.out rfl (by decide) v a.list.length (knCs a.list) rfl (HA5.out.list.alloc _) ⟨w5.heap.size, 0, none⟩ 1 1 [.string (Bh.extract 0 (4 * c)), .string (Bh.extract (4 * c) Bh.size)] rfl rfl (World.news_of_block (_root_.Go.heap_alloc_new w5 _)) (fun u hu => by simp at hu; rcases hu with rfl | rfl <;> rfl) (by decide) (by unfold maxLen; omega) (by omega) (by show A + 1 ≤ (w5.alloc _).heap.size; rw [size_alloc1]; omega) (w5.heap.size + 1) (by show (w5.alloc _).heap.size = _; rw [size_alloc1]) ?_
  intro g cap w6 hown6 hgr hat hlt6
  have hA6 : w6.heap[A]? = w5.heap[A]? := (hgr.block A (by show A < (w5.alloc _).heap.size; rw [size_alloc1]; omega) (fun e => by have := (row_lt HOv.out A e.symm).1; omega)).trans (Below.heap_alloc w5 _ A (by omega))
  have hW6 : w6.heap[w2.heap.size]? = w5.heap[w2.heap.size]? := (hgr.block _ (by show w2.heap.size < (w5.alloc _).heap.size; rw [size_alloc1]; omega) (fun e => by have := (row_lt HOv.out _ e.symm).2; omega)).trans (Below.heap_alloc w5 _ _ (by omega))
  have c6 : w6.cell? ⟨A, 3, none⟩ = some v := (World.cell?_of_block hA6).trans c5
  have f6 : w6.frozen? ⟨A, 3, none⟩ = false := (World.frozen?_of_block hA6).trans (HA5.out.frozen 3)
  refine hK _ _ (fun _ => ⟨c6, HR5.out.keep hW6⟩) ?_
  have HO6 := hide hown6; have HGr := hide hgr; have HAt := hide hat; have HA6 := hide hA6; have HLt := hide hlt6
  clear hown6 hgr hat hK K hA6 hW6 hlt6
  refine wpTailI_step rfl rfl (fun K hK => ?_)
  go_simp
  refine hK _ _ (fun h => absurd h (by decide)) ?_
  clear hK K
  refine wpTailI_step rfl rfl (fun K hK => ?_)
  go_simp
  refine hK _ _ (fun h => absurd h (by decide)) ?_
  clear hK K
  refine wpTailI_step rfl rfl (fun K hK => ?_)
  go_simp
  refine hK _ _ (fun h => absurd h (by decide)) ?_
  clear hK K
  refine wpTailI_nil ?_
  go_wp2_with fail
  go_ret
  have hzz : w.heap.size ≤ w4.heap.size := HB4.out.size
  have B5 : Below w.heap.size w w5 := HB4.out.trans (HB5.out.mono hzz)
  have BA : Below A w w6 := ((B5.mono (Nat.le_of_lt hA)).alloc (by omega) _).grown HGr.out (by rw [size_alloc1]; omega) (fun q hq => by have := (row_lt HOv.out q hq).1; omega)
  refine ⟨⟨BA.setCell (p := ⟨A, 3, none⟩) (Nat.le_refl _) _, fun g' hg hn ho => ?_⟩, .inl ⟨_, .slice (some ⟨g, 0, none⟩) (a.list.length + 1) cap, HRs.out, rfl, ⟨?_, ?_⟩, fun g' hg' => ?_⟩⟩
  · refine (heap_set_other _ _ hn).trans (((HGr.out.block g' (by rw [size_alloc1]; omega) (fun e => ho e.symm)).trans (Below.heap_alloc w5 _ _ (by omega))).trans (B5.block g' hg))
  · have hcA : w6.heap[A]? = some (.cells (arV a.gen a.whole a.good v) 184 (0, 0)) := HA6.out.trans HA5.out.cells
    obtain ⟨hlt, hk⟩ := Array.getElem?_eq_some_iff.1 hcA
    show (w6.heap.modify A _)[A]? = _
    rw [Array.getElem?_eq_getElem (by rw [Array.size_modify]; exact hlt), Array.getElem_modify_self, hk]
    rfl
  · have e : knCs (a.list ++ [(lst (Bh.extract 0 (4 * c)), lst (Bh.extract (4 * c) Bh.size))]) = knCs a.list ++ [.string (Bh.extract 0 (4 * c)), .string (Bh.extract (4 * c) Bh.size)] := by rw [knCs_snoc, bya_lst, bya_lst]
    show World.ownsRow _ _ _ _ _ (a.list ++ [_]).length (knCs (a.list ++ [_]))
    rw [e, List.length_append]
    refine ownsRow_keep HO6.out (fun g' hg' => heap_set_other _ _ (fun e => ?_))
    have := (row_lt HO6.out g' hg').1
    omega
  · have hgg : g = g' := by simpa [Value.ownBlock] using hg'
    subst hgg
    rcases HAt.out with h | h
    · exact .inl h
    · exact .inr (by omega)
end Go.Proofs.YtmmflekajbeamabGreatDoor
