/-
  An area told, one byte of it turned, and read, as plain mathematics; the entries of a state.
  A region that draws its order, by a plan: which operations are readers that are taken first (wherever they stand), and the one order in which the others come; S is shown anew behind all that come ahead of q.
  Plans, the document's answer: are these the words of a block (IsBlock); what slots are at first (begin).
  Plans, the document's answer: what registers come to by puts and by words (byPuts, byWords).
-/
import Derived.Test.YtmmflekajbeamaaDoorR18
import Derived.Test.YtmmflekajbeamaaDoorR17
import Derived.Test.YtmmflekajbeamaaDoorR05
import Derived.Test.YtmmflekajbeamaaDoorR11
import Derived.Test.YtmmflekajbeamaaDoorR13
namespace Go.Proofs.YtmmflekajbeamaaDoor

abbrev EntN := List UInt8 × List UInt8
/-- The area's text. -/
def areaT (g : Nat) (ws : List EntN) : List UInt8 := frT 1 (numB 4 g) ++ entsT ws
/-- Where the i-th frame ends. -/
def endA (ws : List EntN) (i : Nat) : Nat := 12 + (entsT (ws.take i)).length
theorem ents_snoc (ws : List EntN) (x : EntN) : entsT (ws ++ [x]) = entsT ws ++ frT 2 (entP x) := by simp [entsT]
theorem ents_app (a b : List EntN) : entsT (a ++ b) = entsT a ++ entsT b := by simp [entsT]
theorem area_len (g : Nat) (ws : List EntN) : (areaT g ws).length = 12 + (entsT ws).length := by unfold areaT; rw [List.length_append, frT_len, numB_len]
theorem endA_last (g : Nat) (ws : List EntN) : endA ws ws.length = (areaT g ws).length := by rw [area_len]; unfold endA; rw [List.take_length]
theorem take_one (ws : List EntN) (i : Nat) (h : i < ws.length) : ws.take (i + 1) = ws.take i ++ [ws[i]] := by rw [List.take_add_one, List.getElem?_eq_getElem h]; rfl
theorem endA_step (ws : List EntN) (i : Nat) (h : i < ws.length) : endA ws (i + 1) = endA ws i + ((entP ws[i]).length + 8) := by
  unfold endA
  rw [take_one ws i h, ents_snoc, List.length_append, frT_len]
  omega
theorem endA_ge (ws : List EntN) (i : Nat) : 12 ≤ endA ws i := by unfold endA; omega
/-- The last end that is not behind k. -/
def gdA (ws : List EntN) (k : Nat) : Nat → Nat
  | 0 => 0
  | i + 1 => if endA ws i ≤ k then endA ws i else gdA ws k i
theorem gdA_small (ws : List EntN) (k : Nat) (h : k < 12) : ∀ i, gdA ws k i = 0
  | 0 => rfl
  | i + 1 => by
    rw [gdA, if_neg (by have := endA_ge ws i; omega), gdA_small ws k h i]
theorem gdA_spec (ws : List EntN) (k : Nat) (h : 12 ≤ k) : ∀ i, ∃ j, j ≤ i ∧ gdA ws k (i + 1) = endA ws j ∧ endA ws j ≤ k ∧ ∀ m, j < m → m ≤ i → k < endA ws m
  | 0 => ⟨0, Nat.le_refl _, by rw [gdA, if_pos (by simp [endA, entsT]; omega)], by simp [endA, entsT]; omega, fun m h1 h2 => by omega⟩
  | i + 1 => by
    by_cases hc : endA ws (i + 1) ≤ k
    · exact ⟨i + 1, Nat.le_refl _, by rw [gdA, if_pos hc], hc, fun m h1 h2 => by omega⟩
    · obtain ⟨j, h1, h2, h3, h4⟩ := gdA_spec ws k h i
      refine ⟨j, by omega, by rw [gdA, if_neg hc, h2], h3, fun m h5 h6 => ?_⟩
      by_cases hm : m = i + 1
      · subst hm; omega
      · exact h4 m h5 (by omega)
/-- What is read of an area with one byte turned. -/
theorem scan_turned (g : Nat) (ws : List EntN) (k k' : Nat) (b : UInt8) (h0 : 0 < g) (h1 : g < 4294967296) (hx : ∀ x ∈ ws, EntOK x) (hk : k < (areaT g ws).length)
    (hk' : k' = if k = gdA ws k (ws.length + 1) + 2 ∨ k = gdA ws k (ws.length + 1) + 3 then gdA ws k (ws.length + 1) + 4 else k) (hb : (areaT g ws)[k']? ≠ some b) :
    k' < (areaT g ws).length ∧ (scan ((areaT g ws).set k' b)).good = gdA ws k (ws.length + 1) ∧ (0 < gdA ws k (ws.length + 1) ↔ (scan ((areaT g ws).set k' b)).gen = g) ∧ (scan ((areaT g ws).set k' b)).whole = false ∧ (scan ((areaT g ws).set k' b)).list.length ≤ ws.length := by
  have hl := area_len g ws
  have hn4 : (numB 4 g).length = 4 := numB_len 4 g
  by_cases hs : k < 12
  · have hg := gdA_small ws k hs (ws.length + 1)
    rw [hg] at hk' ⊢
    have hkk : k' < 12 ∧ k' ≠ 2 ∧ k' ≠ 3 := by subst hk'; split <;> omega
    have e : (areaT g ws).set k' b = (frT 1 (numB 4 g)).set k' b ++ entsT ws := by unfold areaT; exact List.set_append_left _ _ (by rw [frT_len]; omega)
    have hb' : (frT 1 (numB 4 g))[k']? ≠ some b := by
      unfold areaT at hb
      rwa [List.getElem?_append_left (by rw [frT_len]; omega)] at hb
    rw [e, scan_none _ (frst_spoilt 1 (numB 4 g) (entsT ws) k' b (by omega) (by omega) hkk.2.1 hkk.2.2 hb')]
    exact ⟨by omega, rfl, ⟨fun h => by omega, fun h => by have : (0 : Nat) = g := h; omega⟩, rfl, Nat.zero_le _⟩
  · obtain ⟨j, hj, hgd, hle, hgt⟩ := gdA_spec ws k (by omega) ws.length
    have hjn : j < ws.length := by
      by_cases hjn : j < ws.length
      · exact hjn
      · have : j = ws.length := by omega
        subst this
        rw [endA_last g ws] at hle
        omega
    have hlt := hgt (j + 1) (by omega) (by omega)
    rw [endA_step ws j hjn] at hlt
    rw [hgd] at hk' ⊢
    have hxj := hx ws[j] (List.getElem_mem hjn)
    have hkk : endA ws j ≤ k' ∧ k' < endA ws j + ((entP ws[j]).length + 8) ∧ k' - endA ws j ≠ 2 ∧ k' - endA ws j ≠ 3 := by subst hk'; split <;> omega
    have hw : ws = ws.take j ++ ([ws[j]] ++ ws.drop (j + 1)) := by
      rw [List.singleton_append, List.getElem_cons_drop, List.take_append_drop]
    have e0 : areaT g ws = areaT g (ws.take j) ++ (frT 2 (entP ws[j]) ++ entsT (ws.drop (j + 1))) := by
      conv => lhs; rw [hw]
      unfold areaT
      rw [ents_app, ents_app, List.append_assoc]
      simp [entsT]
    have hla : (areaT g (ws.take j)).length = endA ws j := by rw [area_len]; rfl
    have e : (areaT g ws).set k' b = frT 1 (numB 4 g) ++ (entsT (ws.take j) ++ ((frT 2 (entP ws[j])).set (k' - endA ws j) b ++ entsT (ws.drop (j + 1)))) := by
      rw [e0, List.set_append_right _ _ (by omega), hla, List.set_append_left _ _ (by rw [frT_len]; omega)]
      unfold areaT
      rw [List.append_assoc]
    have hb' : (frT 2 (entP ws[j]))[k' - endA ws j]? ≠ some b := by
      rw [e0, List.getElem?_append_right (by omega), hla, List.getElem?_append_left (by rw [frT_len]; omega)] at hb
      exact hb
    have hsp := frst_spoilt 2 (entP ws[j]) (entsT (ws.drop (j + 1))) (k' - endA ws j) b hxj.all (by omega) hkk.2.2.1 hkk.2.2.2 hb'
    rw [e, scan_told g (ws.take j) _ h0 h1 (fun x h => hx x (List.mem_of_mem_take h)) hsp]
    have hlen : endA ws j + ((entP ws[j]).length + 8) ≤ (areaT g ws).length := by
      rw [e0, List.length_append, List.length_append, hla, frT_len]
      omega
    have h12 := endA_ge ws j
    exact ⟨by omega, rfl, ⟨fun _ => rfl, fun _ => by omega⟩, rfl, by rw [List.length_take]; omega⟩
/-- What is read of an area told, with a dash and anything behind it. -/
theorem scan_dash (g : Nat) (ws : List EntN) (r : List UInt8) (h0 : 0 < g) (h1 : g < 4294967296) (hx : ∀ x ∈ ws, EntOK x) : scan (areaT g ws ++ 45 :: r) = ⟨g, false, (areaT g ws).length, ws⟩ := by
  rw [area_len]
  unfold areaT
  rw [List.append_assoc]
  exact scan_told g ws _ h0 h1 hx (frst_dash r)

/-! ### the entries of a state -/
def enX (mem : List Int) (pc i : Nat) : EntN := (blkTxt mem ((pc + 17 * i) % 128), planT (ownP (bya (blkTxt mem ((pc + 17 * i) % 128)))))
theorem enX_ok {mem : List Int} (hm : WL 128 mem) (pc i : Nat) : EntOK (enX mem pc i) := by
  have hpc : (pc + 17 * i) % 128 < 128 := Nat.mod_lt _ (by decide)
  have hok := blk_ok hm hpc
  obtain ⟨_, hoL⟩ := ownP_ok hok
  have hn := nPl_le (bya (blkTxt mem ((pc + 17 * i) % 128)))
  have hz := hok.2.1; have h4 := hok.2.2.1
  have hs : (bya (blkTxt mem ((pc + 17 * i) % 128))).size = (blkTxt mem ((pc + 17 * i) % 128)).length := bya_size _
  refine ⟨(blkB_iff _).2 hok, ?_, ?_, ?_⟩
  · show (blkTxt mem ((pc + 17 * i) % 128)).length ≤ 32
    omega
  · show (blkTxt mem ((pc + 17 * i) % 128)).length % 4 = 0
    omega
  · have hp := planT_len (ownP (bya (blkTxt mem ((pc + 17 * i) % 128))))
    have : (entP (enX mem pc i)).length = 1 + ((blkTxt mem ((pc + 17 * i) % 128)).length + (planT (ownP (bya (blkTxt mem ((pc + 17 * i) % 128))))).length) := by simp [entP, enX, numB]; omega
    rw [this]
    omega
def ents (mem : List Int) (pc n : Nat) : List EntN := (List.range n).map (enX mem pc)
theorem ents_len (mem : List Int) (pc n : Nat) : (ents mem pc n).length = n := by simp [ents]
theorem ents_succ (mem : List Int) (pc n : Nat) : ents mem pc (n + 1) = ents mem pc n ++ [enX mem pc n] := by simp [ents, List.range_succ]
theorem ents_ok {mem : List Int} (hm : WL 128 mem) (pc n : Nat) : ∀ x ∈ ents mem pc n, EntOK x := fun x hx => by
  obtain ⟨i, _, rfl⟩ := List.mem_map.1 hx
  exact enX_ok hm pc i
theorem area_snoc (g : Nat) (ws : List EntN) (x : EntN) : areaT g (ws ++ [x]) = areaT g ws ++ frT 2 (entP x) := by unfold areaT; rw [ents_snoc, List.append_assoc]
end Go.Proofs.YtmmflekajbeamaaDoor

namespace Go.Proofs.YtmmflekajbeamaaDoor
open Go

section
variable {P : Program} {ops : Array Oper} {Q : Exit → Act → World → Prop} {md : Region.Mode} {S : World → Prop} {q : Nat}

def tailB (md : Region.Mode) (ops : Array Oper) : List Nat → Array Bool → Bool
  | [], listed => decide (Region.ready md ops listed = [])
  | k :: ts, listed => decide (Region.ready md ops listed = [k]) && tailB md ops ts (listed.setIfInBounds k true)
def headB (md : Region.Mode) (ops : Array Oper) (ts : List Nat) : List Nat → Array Bool → Bool
  | [], listed => tailB md ops ts listed
  | i :: rs, listed => (Region.ready md ops listed).contains i && Region.free md ops listed i && headB md ops ts rs (listed.setIfInBounds i true)
/-- The readers, one by one. -/
def wpTakeI (P : Program) (ops : Array Oper) (S : World → Prop) (Lq : Act → Prop) : List Nat → Act → Prop
  | [], a => Lq a
  | i :: rs, a => ∃ o v, ops[i]? = some o ∧ YieldsIf P ops S o v a ∧ wpTakeI P ops S Lq rs (a.put o.dst v)
/-- The others, in their order. -/
def wpTailI (P : Program) (ops : Array Oper) (Q : Exit → Act → World → Prop) (S : World → Prop) (q : Nat) : List Nat → Act → World → Prop
  | [], a, w => Q .normal a w
  | k :: ts, a, w => ∃ o, ops[k]? = some o ∧ ∀ K : Act → World → Prop, (∀ a' w', (k < q → S w') → wpTailI P ops Q S q ts a' w' → K a' w') → if Region.wanted o (yielded ops a.tmps) then o.wp P a w K Q else K (a.put o.dst undef) w
theorem wpTakeI_nil {Lq : Act → Prop} {a : Act} (h : Lq a) : wpTakeI P ops S Lq [] a := h
theorem wpTakeI_step {Lq : Act → Prop} {a : Act} {i : Nat} {o : Oper} {rs : List Nat} (v : Value) (hi : ops[i]? = some o) (hw : Region.wanted o (yielded ops a.tmps) = true) (hv : ∀ w, S w → (execOp a.eval o).run P w = .ok (.value v) w)
    (h : wpTakeI P ops S Lq rs (a.put o.dst v)) : wpTakeI P ops S Lq (i :: rs) a := ⟨o, v, hi, .inl ⟨hw, hv⟩, h⟩
theorem wpTailI_nil {a : Act} {w : World} (h : Q .normal a w) : wpTailI P ops Q S q [] a w := h
theorem wpTailI_step {k : Nat} {o : Oper} {ts : List Nat} {a : Act} {w : World} (hk : ops[k]? = some o) (hg : o.guard = none) (h : ∀ K : Act → World → Prop, (∀ a' w', (k < q → S w') → wpTailI P ops Q S q ts a' w' → K a' w') → o.wp P a w K Q) : wpTailI P ops Q S q (k :: ts) a w :=
  ⟨o, hk, fun K hK => by
    rw [if_pos (by simp [Region.wanted, hg])]
    exact h K hK⟩

theorem wpAnyQ_tailI : ∀ (ts : List Nat) (listed : Array Bool) (a : Act) (w : World), tailB md ops ts listed = true → wpTailI P ops Q S q ts a w → wpAnyQ P md ops Q S q ts.length listed a w
  | [], _, _, _, hB, h => ⟨by simpa [tailB] using hB, h⟩
  | k :: ts, listed, a, w, hB, h => by
    simp only [tailB, Bool.and_eq_true, decide_eq_true_eq] at hB
    obtain ⟨o, h0, h2⟩ := h
    refine ⟨fun h1 => (by rw [hB.1] at h1; cases h1), fun i hi => ?_⟩
    rw [hB.1] at hi
    have hik : i = k := by simpa using hi
    subst hik
    have h3 := h2 (fun a' w' => (i < q → S w') ∧ wpTailI P ops Q S q ts a' w') (fun _ _ h1 h2 => ⟨h1, h2⟩)
    have hw : wpOp P ops Q i (fun a' w' => (i < q → S w') ∧ wpTailI P ops Q S q ts a' w') a w := by
      unfold wpOp
      simp only [h0]
      split
      · rename_i hq; rw [if_pos hq] at h3; exact .inl h3
      · rename_i hq; rw [if_neg hq] at h3; exact h3
    exact wpOp_mono (fun a' w' h' => ⟨h'.1, wpAnyQ_tailI ts _ a' w' hB.2 h'.2⟩) hw
theorem wpAnyQ_headI {ts : List Nat} {w : World} (hsel : Region.noSelect ops = true) (hQ : ∀ d v c a w, Q (.panic c) (Act.put a d v) w → Q (.panic c) a w) (hS : S w) :
    ∀ (rs : List Nat) (listed : Array Bool) (a : Act), (rs.all fun i => decide (i < q) && (List.range ops.size).all fun j => decide (j < q) || Region.waitsFor md ops j i) = true → headB md ops ts rs listed = true →
      wpTakeI P ops S (fun a' => wpTailI P ops Q S q ts a' w) rs a → wpAnyQ P md ops Q S q (rs.length + ts.length) listed a w
  | [], listed, a, _, hB, h => by
    rw [List.length_nil, Nat.zero_add]
    exact wpAnyQ_tailI ts listed a w hB h
  | i :: rs, listed, a, hl, hB, h => by
    simp only [headB, Bool.and_eq_true] at hB
    simp only [List.all_cons, Bool.and_eq_true, decide_eq_true_eq] at hl
    obtain ⟨⟨hr, hf⟩, hB'⟩ := hB
    obtain ⟨o, v, h0, hy, hK⟩ := h
    rw [List.length_cons, show rs.length + 1 + ts.length = (rs.length + ts.length) + 1 by omega]
    refine wpAnyQ_first h0 (Region.noSelect_spec hsel) (hQ o.dst v) (fun j oj hj hoj => ?_) hl.1.1 (rs.length + ts.length) listed a w (Region.free_spec h0 hf) (by simpa using hr) hy hS (wpAnyQ_headI hsel hQ hS rs _ _ hl.2 hB' hK)
    have hjs : j < ops.size := (Array.getElem?_eq_some_iff.1 hoj).1
    have h1 := List.all_eq_true.1 hl.1.2 j (List.mem_range.2 hjs)
    simp only [Bool.or_eq_true, decide_eq_true_eq] at h1
    rcases h1 with h1 | h1
    · omega
    · obtain ⟨oj', hoj', e, he, hb, hon⟩ := Region.waitsFor_spec h1
      have : oj' = oj := Option.some.inj (hoj'.symm.trans hoj)
      subst this
      exact ⟨e, he, hb, hon⟩
/-- The plan fits the region. -/
def planB (ops : Array Oper) (rs ts : List Nat) (q : Nat) : Bool :=
  Region.noSelect ops && decide (rs.length + ts.length = ops.size) && (rs.all fun i => decide (i < q) && (List.range ops.size).all fun j => decide (j < q) || Region.waitsFor .any ops j i) && headB .any ops ts rs (Array.replicate ops.size false)
theorem held_pick {id : Nat} {a : Act} {w : World} (rs ts : List Nat) (q : Nat) (S : World → Prop) (hm : P.follows .mixedOrders = true) (hB : planB ops rs ts q = true)
    (hQ : ∀ d v c a w, Q (.panic c) (Act.put a d v) w → Q (.panic c) a w) (hS : S w.drew)
    (h : wpTakeI P ops S (fun a' => wpTailI P ops Q S q ts a' w.drew) rs a) : (Code.region id ops true).wp P Q a w := by
  simp only [planB, Bool.and_eq_true, decide_eq_true_eq] at hB
  obtain ⟨⟨⟨hsel, hlen⟩, hlast⟩, hhead⟩ := hB
  have H := wpAnyQ_headI (P := P) (md := .any) (Q := Q) (S := S) (q := q) (w := w.drew) hsel hQ hS rs _ a hlast hhead h
  refine wp_region_any hm ?_
  have H2 := wpAny_of_Q _ _ _ _ H
  rw [hlen] at H2
  exact H2
end
end Go.Proofs.YtmmflekajbeamaaDoor

namespace Go.Proofs.YtmmflekajbeamaaDoor
open Go.RowKit

def txCs (l : List (List UInt8)) : List Value := l.map fun x => .string (bya x)
theorem txCs_len (l : List (List UInt8)) : (txCs l).length = l.length := by simp [txCs]
theorem txCs_get (l : List (List UInt8)) (i : Nat) (h : i < l.length) : (txCs l)[i]? = some (.string (bya (l.getD i []))) := by
  unfold txCs
  rw [List.getElem?_map, List.getD_eq_getElem?_getD, List.getElem?_eq_getElem h]
  rfl
theorem txCs_set (l : List (List UInt8)) (i : Nat) (x : List UInt8) : (txCs l).set i (.string (bya x)) = txCs (l.set i x) := by
  unfold txCs
  rw [List.map_set]
theorem begS_len : begS.length = 16 := by simp [begS]
theorem begS_at {k : Nat} (h : k < 16) : begS[k]? = some (if k < 8 then sReg k else sCon 0) := by
  unfold begS
  rw [List.getElem?_map, List.getElem?_range h]; rfl
theorem txCs_snoc (l : List (List UInt8)) (x : List UInt8) : txCs (l ++ [x]) = txCs l ++ [.string (bya x)] := by simp [txCs]

set_option maxRecDepth 100000 in
set_option maxHeartbeats 2000000 in
theorem begin_ref (w : World) :
    Calls Tryd.prog 127 #[] w fun e' w' => Below w.heap.size w w' ∧ ∃ v, e' = .returned v ∧ w'.ownsRow w.heap.size 9 1 v 16 (txCs begS) := by
  obtain ⟨inf, hinf, hz, hsz1, hby⟩ := infoStr
  have HInf := hide hinf; have HZ := hide hz; have HSz := hide hsz1; have HBy := hide hby
  clear hinf hz hsz1 hby
  have HN0 : Hid (∀ w', Calls Tryd.prog 94 #[.int .i64 0, .int .i64 4] w' fun e' w'' => e' = .returned (.string (bya (numB 4 0))) ∧ Below w'.heap.size w' w'') := fun w' => number_ref 0 4 w' (by decide) (by decide)
  have HC0 : Hid ((⟨#[35]⟩ : ByteArray) ++ bya (numB 4 0) = bya (sCon 0)) := by unfold Hid; rw [show (⟨#[35]⟩ : ByteArray) = bya [35] from rfl, bya_app]; rfl
  have z0 : (bya (numB 4 0)).size ≤ 4 := by rw [bya_size, numB_len]; decide
  generalize bya (numB 4 0) = D0 at *
  go_enter Tryd.func127, Tryd.ntmps127
  go_wp2_with fail
  go_loopw [1, 2] (fun v i wr => ∃ k : Nat, k ≤ 16 ∧ i = .int .i64 k ∧ wr.ownsRow w.heap.size 9 1 v k (txCs (begS.take k)) ∧ Below w.heap.size w wr) (fun _ i _ => 16 - (intOf i).toNat)
  case atStart => exact ⟨0, Nat.zero_le _, rfl, World.ownsRow_nil _ _ _ _, Below.refl _ _⟩
  case round =>
    obtain ⟨k, hk, rfl, hown, hbl⟩ := hrel
    obtain ⟨va, vc, hv⟩ := owns_len hown
    subst hv
    have HO := hide hown; have HBl := hide hbl
    have hwz := hbl.size
    clear hown hbl
    by_cases hlt : k < 16
    · have hlt' : (k : Int) < 16 := by omega
      have hat := begS_at hlt
      by_cases h8 : k < 8
      · have h8' : (k : Int) < 8 := by omega
        rw [if_pos h8] at hat
        have HN := hide (fun w' => number_ref k 1 w' (by decide) (by omega))
        have HC : Hid ((⟨#[114]⟩ : ByteArray) ++ bya (numB 1 k) = bya (sReg k)) := by unfold Hid; rw [show (⟨#[114]⟩ : ByteArray) = bya [114] from rfl, bya_app]; rfl
        have HS : Hid (txCs (begS.take (k + 1)) = txCs (begS.take k) ++ [.string (bya (sReg k))]) := by unfold Hid; rw [List.take_add_one, hat, ← txCs_snoc]; rfl
        have z1 : (bya (numB 1 k)).size ≤ 4 := by rw [bya_size, numB_len]; decide
        generalize bya (numB 1 k) = D1 at *
        clear hat
        go_wp2_with fail
        refine (unhide HN0 _).mono ?_
        rintro e w1 ⟨rfl, hb1⟩
        have HB1 := hide (HBl.out.trans (hb1.mono hwz))
        have HO1 := hide (own_grow HO.out hb1)
        have hz1 := Nat.le_trans hwz hb1.size
        clear hb1
        go_wp2_with fail
        refine (unhide HN _).mono ?_
        rintro e w2 ⟨rfl, hb2⟩
        have HB2 := hide (HB1.out.trans (hb2.mono hz1))
        have HO2 := hide (own_grow HO1.out hb2)
        have hz2 := Nat.le_trans hz1 hb2.size
        clear hb2
        go_wp2_with (at_builtin; refine wpList_append_lies _ rfl _ _ 120 rfl w.heap.size 9 inf _ 1 16 Tryd.underlying120 HInf.out HZ.out HSz.out HBy.out rfl (by decide) (.slice va k vc) k (txCs (begS.take k)) rfl (HO2.out.alloc _) ⟨w2.heap.size, 0, none⟩ 1 1 [.string ((⟨#[114]⟩ : ByteArray) ++ D1)] rfl rfl (World.news_of_block (_root_.Go.heap_alloc_new w2 _)) (fun u hu => by simp at hu; subst hu; rfl) (by decide) (by unfold maxLen; omega) (by omega) (by rw [size_alloc1]; omega) (w2.heap.size + 1) (by rw [size_alloc1]) ?_; intro g2' cap2 w3 hown2 hgr2 hat2 hlt2; have HO3 := hide hown2; have HGr := hide hgr2; clear hown2 hgr2 hat2)
        refine ⟨⟨k + 1, by omega, by go_num, ?_, ?_⟩, by simp [intOf]; omega⟩
        · rw [HS.out, ← HC.out]
          exact HO3.out
        · exact (HB2.out.alloc hz2 _).grown HGr.out (by rw [size_alloc1]; omega) (fun q hq => (row_lt HO2.out q hq).1)
      · have h8' : ¬ (k : Int) < 8 := by omega
        rw [if_neg h8] at hat
        have HS : Hid (txCs (begS.take (k + 1)) = txCs (begS.take k) ++ [.string (bya (sCon 0))]) := by unfold Hid; rw [List.take_add_one, hat, ← txCs_snoc]; rfl
        clear hat
        go_wp2_with fail
        refine (unhide HN0 _).mono ?_
        rintro e w1 ⟨rfl, hb1⟩
        have HB1 := hide (HBl.out.trans (hb1.mono hwz))
        have HO1 := hide (own_grow HO.out hb1)
        have hz1 := Nat.le_trans hwz hb1.size
        clear hb1
        go_wp2_with (at_builtin; refine wpList_append_lies _ rfl _ _ 120 rfl w.heap.size 9 inf _ 1 16 Tryd.underlying120 HInf.out HZ.out HSz.out HBy.out rfl (by decide) (.slice va k vc) k (txCs (begS.take k)) rfl (HO1.out.alloc _) ⟨w1.heap.size, 0, none⟩ 1 1 [.string ((⟨#[35]⟩ : ByteArray) ++ D0)] rfl rfl (World.news_of_block (_root_.Go.heap_alloc_new w1 _)) (fun u hu => by simp at hu; subst hu; rfl) (by decide) (by unfold maxLen; omega) (by omega) (by rw [size_alloc1]; omega) (w1.heap.size + 1) (by rw [size_alloc1]) ?_; intro g2' cap2 w3 hown2 hgr2 hat2 hlt2; have HO3 := hide hown2; have HGr := hide hgr2; clear hown2 hgr2 hat2)
        refine ⟨⟨k + 1, by omega, by go_num, ?_, ?_⟩, by simp [intOf]; omega⟩
        · rw [HS.out, ← HC0.out]
          exact HO3.out
        · exact (HB1.out.alloc hz1 _).grown HGr.out (by rw [size_alloc1]; omega) (fun q hq => (row_lt HO1.out q hq).1)
    · have hkn : k = 16 := by omega
      have e16 : (k : Int) = 16 := by omega
      have HO' : Hid (wr.ownsRow w.heap.size 9 1 (.slice va k vc) 16 (txCs begS)) := by
        have := HO.out
        rw [List.take_of_length_le (by rw [begS_len]; omega)] at this
        rw [hkn] at this ⊢
        exact this
      clear HO
      have hlt' : ¬ (k : Int) < 16 := by omega
      clear hkn e16
      go_wp2_with fail
      go_ret
      exact ⟨HBl.out, _, rfl, HO'.out⟩

set_option maxRecDepth 100000 in
set_option maxHeartbeats 1000000 in
theorem isBlock_yes (s : ByteArray) (w : World) (h : blkOK s) :
    Calls Tryd.prog 88 #[.string s] w fun e' w' => e' = .returned (.bool true) ∧ w' = w := by
  obtain ⟨h4, h32, hm, hp⟩ := h
  have HP := hide hp
  have h4' : ¬ (s.size : Int) < 4 := by omega
  have h4d : decide ((s.size : Int) < 4) = false := by simpa using h4'
  have h32d : decide ((32 : Int) < (s.size : Int)) = false := by simp; omega
  have hm' : (s.size : Int) % 4 = 0 := by omega
  clear hp
  go_enter Tryd.func88, Tryd.ntmps88
  go_wp2_with fail
  go_loop [3] (fun i => ∃ k j : Nat, 4 * k + 4 ≤ s.size ∧ j = 4 * k ∧ i = .int .i64 j) (fun i => s.size - (intOf i).toNat)
  case atStart => exact ⟨0, 0, by omega, rfl, rfl⟩
  case round =>
    obtain ⟨k, j, hk, hj, rfl⟩ := hrel
    by_cases hlt : j < s.size - 4
    · have hlt' : (j : Int) < (s.size : Int) - 4 := by omega
      have hwl := wdAt_lt s k
      have hv : ∀ w', Calls Tryd.prog 86 #[.string s, .int .i64 (j : Int), .int .i64 4] w' fun e' w'' => e' = .returned (.int .i64 (wdAt s k : Nat)) ∧ w'' = w' := fun w' => by
        have := value_any s j 4 w' (by decide) (by omega) (by omega)
        unfold wdAt
        rw [← hj]
        exact this
      have HV := hide hv
      have hpl := fun w' => plain_any (wdAt s k : Nat) w' (by omega) (by omega)
      have hpk : plB (fop (wdAt s k : Nat)) (fa (wdAt s k : Nat)) (fb (wdAt s k : Nat)) (fc (wdAt s k : Nat)) = true := HP.out k (by omega)
      rw [hpk] at hpl
      have HPl := hide hpl
      clear hv hpl hpk
      generalize wdAt s k = v at *
      have HJ := hide hj
      clear hj
      go_wp2_with fail
      refine (unhide HV _).mono ?_
      rintro e w' ⟨rfl, hw⟩
      obtain rfl := hw.symm
      go_wp2_with fail
      refine (unhide HPl _).mono ?_
      rintro e w' ⟨rfl, hw⟩
      obtain rfl := hw.symm
      go_wp2_with fail
      exact ⟨⟨k + 1, j + 4, by have := HJ.out; omega, by have := HJ.out; omega, by go_num⟩, by simp [intOf]; omega⟩
    · have hlt' : ¬ (j : Int) < (s.size : Int) - 4 := by omega
      clear hj
      go_wp2_with fail
      go_ret
      exact ⟨rfl, rfl⟩

set_option maxRecDepth 100000 in
set_option maxHeartbeats 1000000 in
theorem isBlock_no (s : ByteArray) (w : World) (h : ¬ blkOK s) (hs : s.size ≤ maxLen) :
    Calls Tryd.prog 88 #[.string s] w fun e' w' => e' = .returned (.bool false) ∧ w' = w := by
  unfold maxLen at hs
  by_cases h4 : s.size < 4
  · have h4' : (s.size : Int) < 4 := by omega
    go_enter Tryd.func88, Tryd.ntmps88
    go_wp2_with fail
    go_ret
    exact ⟨rfl, rfl⟩
  · have h4d : decide ((s.size : Int) < 4) = false := by simp; omega
    by_cases h32 : 32 < s.size
    · have h32' : (32 : Int) < (s.size : Int) := by omega
      go_enter Tryd.func88, Tryd.ntmps88
      go_wp2_with fail
      go_ret
      exact ⟨rfl, rfl⟩
    · have h32d : decide ((32 : Int) < (s.size : Int)) = false := by simp; omega
      by_cases hm : s.size % 4 = 0
      · have hm' : (s.size : Int) % 4 = 0 := by omega
        have HN : Hid (¬ ∀ j, j + 1 < s.size / 4 → plW (wdAt s j) = true) := fun hp => h ⟨by omega, by omega, hm, hp⟩
        go_enter Tryd.func88, Tryd.ntmps88
        go_wp2_with fail
        clear hm'
        go_loop [3] (fun i => ∃ k j : Nat, 4 * k + 4 ≤ s.size ∧ j = 4 * k ∧ i = .int .i64 j ∧ Hid (∀ q, q < k → plW (wdAt s q) = true)) (fun i => s.size - (intOf i).toNat)
        case atStart => exact ⟨0, 0, by omega, rfl, rfl, fun q hq => by omega⟩
        case round =>
          obtain ⟨k, j, hk, hj, rfl, HG⟩ := hrel
          by_cases hlt : j < s.size - 4
          · have hlt' : (j : Int) < (s.size : Int) - 4 := by omega
            have hwl := wdAt_lt s k
            have hv : ∀ w', Calls Tryd.prog 86 #[.string s, .int .i64 (j : Int), .int .i64 4] w' fun e' w'' => e' = .returned (.int .i64 (wdAt s k : Nat)) ∧ w'' = w' := fun w' => by
              have := value_any s j 4 w' (by decide) (by omega) (by omega)
              unfold wdAt
              rw [← hj]
              exact this
            have HV := hide hv
            have hpl := fun w' => plain_any (wdAt s k : Nat) w' (by omega) (by omega)
            cases hpk : plW (wdAt s k : Nat)
            · have hpk' : plB (fop (wdAt s k : Nat)) (fa (wdAt s k : Nat)) (fb (wdAt s k : Nat)) (fc (wdAt s k : Nat)) = false := hpk
              rw [hpk'] at hpl
              have HPl := hide hpl
              clear hv hpl hpk hpk' HG HN
              generalize wdAt s k = v at *
              clear hj
              go_wp2_with fail
              refine (unhide HV _).mono ?_
              rintro e w' ⟨rfl, hw⟩
              obtain rfl := hw.symm
              go_wp2_with fail
              refine (unhide HPl _).mono ?_
              rintro e w' ⟨rfl, hw⟩
              obtain rfl := hw.symm
              go_wp2_with fail
              go_ret
              exact ⟨rfl, rfl⟩
            · have HG' : Hid (∀ q, q < k + 1 → plW (wdAt s q) = true) := fun q hq => by
                by_cases hqk : q = k
                · rw [hqk]; exact hpk
                · exact HG.out q (by omega)
              have hpk' : plB (fop (wdAt s k : Nat)) (fa (wdAt s k : Nat)) (fb (wdAt s k : Nat)) (fc (wdAt s k : Nat)) = true := hpk
              rw [hpk'] at hpl
              have HPl := hide hpl
              clear hv hpl hpk hpk' HG
              generalize wdAt s k = v at *
              have HJ := hide hj
              clear hj
              go_wp2_with fail
              refine (unhide HV _).mono ?_
              rintro e w' ⟨rfl, hw⟩
              obtain rfl := hw.symm
              go_wp2_with fail
              refine (unhide HPl _).mono ?_
              rintro e w' ⟨rfl, hw⟩
              obtain rfl := hw.symm
              go_wp2_with fail
              exact ⟨⟨k + 1, j + 4, by have := HJ.out; omega, by have := HJ.out; omega, by go_num, HG'⟩, by simp [intOf]; omega⟩
          · exact absurd (fun q hq => HG.out q (by omega)) HN.out
      · have hm' : ((s.size : Int) % 4 == 0) = false := by simp; omega
        go_enter Tryd.func88, Tryd.ntmps88
        go_wp2_with fail
        go_ret
        exact ⟨rfl, rfl⟩
end Go.Proofs.YtmmflekajbeamaaDoor

namespace Go.Proofs.YtmmflekajbeamaaDoor
open Go.RowKit

theorem vS_set {l : List (List UInt8)} {p : PutN} (h : p.kind = 1) : vS l p = sCon p.k := by unfold vS; rw [if_pos h]
theorem vS_load {l : List (List UInt8)} {p : PutN} (h : p.kind = 6) : vS l p = ldS (l.getD p.a []) p.k := by unfold vS; rw [if_neg (by omega), if_pos h]
theorem vS_move {l : List (List UInt8)} {p : PutN} (h : p.kind = 7) : vS l p = l.getD p.a [] := by unfold vS; rw [if_neg (by omega), if_neg (by omega), if_pos h]
theorem vS_op {l : List (List UInt8)} {p : PutN} (h2 : 2 ≤ p.kind) (h5 : p.kind ≤ 5) : vS l p = jnS p.kind (l.getD p.a []) (l.getD p.b []) := by unfold vS; rw [if_neg (by omega), if_neg (by omega), if_neg (by omega)]
/-- The row of the slots' texts in a world that has grown. -/
theorem row_txt {w : World} {B : Nat} {g cap : Nat} {l : List (List UInt8)} (h : w.ownsRow B 9 1 (.slice (some ⟨g, 0, none⟩) 16 cap) 16 (txCs l)) (hl : l.length = 16) {w2 : World} (hb : Below w.heap.size w w2) :
    (∀ i, i < 16 → w2.cell? ⟨g, i, none⟩ = some (.string (bya (l.getD i [])))) ∧ (∀ i, w2.frozen? ⟨g, i, none⟩ = false) ∧ ∀ d x, (w2.setCell ⟨g, d, none⟩ (.string (bya x))).ownsRow B 9 1 (.slice (some ⟨g, 0, none⟩) 16 cap) 16 (txCs (l.set d x)) := by
  have h2 := own_grow h hb
  refine ⟨fun i hi => ?_, fun i => h2.frozenAt i, fun d x => ?_⟩
  · rw [h2.cellAt i (by omega), txCs_get l i (by omega)]
  · have := (h2.stored d (.string (bya x))).1
    rw [txCs_set] at this
    exact this

set_option maxRecDepth 100000 in
set_option maxHeartbeats 4000000 in
theorem byPuts_ref (B' : Nat) (pv : Value) (ps : List PutN) (w : World) (hps : w.ownsRow B' 59 5 pv ps.length (putCs ps)) (hp : ∀ p ∈ ps, okPut p ∧ p.k < 4294967296) (hpl : ps.length ≤ 10) :
    Calls Tryd.prog 90 #[pv] w fun e' w' => Below w.heap.size w w' ∧ ∃ v, e' = .returned v ∧ w'.ownsRow w.heap.size 9 1 v 16 (txCs (comeS ps)) := by
  obtain ⟨pa, pc, rfl⟩ := owns_len hps
  have HPs := hide hps; have HOk := hide hp
  have HXS := hide (fun k (hk : k ≤ ps.length) => XSL.fold hp k hk)
  have HBg := hide (begin_ref w)
  clear hps hp
  go_enter Tryd.func90, Tryd.ntmps90
  go_wp2_with fail
  refine (unhide HBg).mono ?_
  rintro e w0 ⟨hb0, v0, rfl, ho0⟩
  obtain ⟨g, cap, rfl, hgw, hgl⟩ := ho0.form (by decide)
  have HB0 := hide hb0; have HO0 := hide ho0
  clear hb0 ho0 HBg
  go_wp2_with fail
  go_loopw [4] (fun i wr => ∃ k : Nat, k ≤ ps.length ∧ i = .int .i64 k ∧ wr.ownsRow w.heap.size 9 1 (.slice (some ⟨g, 0, none⟩) 16 cap) 16 (txCs ((ps.take k).foldl stS begS)) ∧ Below w.heap.size w wr) (fun i _ => ps.length - (intOf i).toNat)
  case atStart => exact ⟨0, Nat.zero_le _, rfl, HO0.out, HB0.out⟩
  case round =>
    obtain ⟨k, hk, rfl, hown, hbl⟩ := hrel
    have HBl := hide hbl
    have hwz := hbl.size
    have hgr : g < wr.heap.size := (row_lt hown g rfl).2
    by_cases hlt : k < ps.length
    · have hlt' : (k : Int) < (ps.length : Int) := by omega
      have hpk : ps[k]? = some ps[k] := List.getElem?_eq_getElem hlt
      have HStp : Hid ((ps.take (k + 1)).foldl stS begS = ((ps.take k).foldl stS begS).set ps[k].d (vS ((ps.take k).foldl stS begS) ps[k])) := foldl_take_succ _ _ _ _ _ hpk
      obtain ⟨hok, hkk⟩ := HOk.out _ (List.getElem_mem hlt)
      have hxl := HXS.out k hk
      have hbd := bdX_10 (n := k) (by omega)
      obtain ⟨pg, pcap, hform, _, hpgl⟩ := HPs.out.form (by omega)
      cases hform
      obtain ⟨x0, x1, x2, x3, x4⟩ := put_cells (own_grow HPs.out hbl) k ps[k] hpk
      have hrt := hide (fun w2 hb => row_txt hown hxl.1 (w2 := w2) hb)
      have HFin : Hid (∀ w2, Below wr.heap.size wr w2 → (w2.setCell ⟨g, ps[k].d, none⟩ (.string (bya (vS ((ps.take k).foldl stS begS) ps[k])))).ownsRow w.heap.size 9 1 (.slice (some ⟨g, 0, none⟩) 16 cap) 16 (txCs ((ps.take (k + 1)).foldl stS begS)) ∧ Below w.heap.size w (w2.setCell ⟨g, ps[k].d, none⟩ (.string (bya (vS ((ps.take k).foldl stS begS) ps[k]))))) := fun w2 hb => by
        rw [HStp.out]
        exact ⟨(hrt.out w2 hb).2.2 _ _, (HBl.out.trans (hb.mono hwz)).setCell hgw _⟩
      have hd16 := hok.1
      have ha16 := hok.2.1
      have hb16 := hok.2.2.1
      have hxa := hxl.at ha16
      have hxb := hxl.at hb16
      generalize (ps.take k).foldl stS begS = L at *
      generalize ps[k] = p at *
      clear hpk hown hbl HStp hxl
      obtain ⟨pk, pd, pa, pb, pk'⟩ := p
      obtain ⟨-, -, -, hc⟩ := hok
      simp only at x0 x1 x2 x3 x4 hd16 ha16 hb16 hxa hxb hc hkk HFin
      have hd16' : (pd : Int) < 16 := by omega
      have ha16' : (pa : Int) < 16 := by omega
      have hb16' : (pb : Int) < 16 := by omega
      have hb1 : ∀ o, Below wr.heap.size wr (wr.alloc o) := fun o => (Below.refl _ _).alloc (Nat.le_refl _) _
      have HB1 := hide hb1
      have ca := ((hrt.out wr (Below.refl _ _)).1 pa ha16)
      have cb := ((hrt.out wr (Below.refl _ _)).1 pb hb16)
      clear hb1
      have hbox : ∀ (w2 : World), Below (wr.heap.size + 1) (wr.alloc (.cells #[.int .i64 (pk : Int), .int .i64 (pd : Int), .int .i64 (pa : Int), .int .i64 (pb : Int), .int .i64 (pk' : Int)] 59)) w2 → w2.cell? ⟨wr.heap.size, 1, none⟩ = some (.int .i64 (pd : Int)) := fun w2 hb => by
        rw [below_cell' hb _ _ (by omega), World.cell?_alloc_at (hn := rfl)]; rfl
      have HBox := hide hbox
      clear hbox
      rcases hc with ⟨rfl, rfl, rfl⟩ | ⟨k2, k5, rfl⟩ | ⟨rfl, rfl, hk6⟩ | ⟨rfl, rfl, rfl⟩
      · rw [vS_set rfl] at HFin
        have HN := hide (fun w' => number_ref pk' 4 w' (by decide) (by omega))
        have HC : Hid ((⟨#[35]⟩ : ByteArray) ++ bya (numB 4 pk') = bya (sCon pk')) := by unfold Hid; rw [show (⟨#[35]⟩ : ByteArray) = bya [35] from rfl, bya_app]; rfl
        rw [← HC.out] at HFin
        have z1 : (bya (numB 4 pk')).size ≤ 4 := by rw [bya_size, numB_len]; decide
        generalize bya (numB 4 pk') = D1 at *
        have x0' : wr.cell? ⟨pg, k * 5, none⟩ = some (.int .i64 1) := x0
        clear x0 ca cb
        go_wp2_with fail
        refine (unhide HN _).mono ?_
        rintro e w2 ⟨rfl, hb2⟩
        have hb2' : Below wr.heap.size wr w2 := (HB1.out _).trans (hb2.mono (by rw [size_alloc1]; omega))
        have y1 := HBox.out w2 (by rw [size_alloc1] at hb2; exact hb2)
        obtain ⟨r1, r2, r3⟩ := hrt.out w2 hb2'
        have cd := r1 pd hd16
        have fd := r2 pd
        have HE := hide (HFin.out w2 hb2')
        clear hb2 hb2' r1 r2 r3
        go_wp2_with fail
        exact ⟨⟨k + 1, by omega, by go_num, HE.out.1, HE.out.2⟩, by simp [intOf]; omega⟩
      · rw [vS_op k2 k5] at HFin
        have HJ := hide (fun w' => joined_ref pk _ _ (bdX k) w' k2 k5 hxa hxb (by omega))
        have q1 : ((pk : Int) == 1) = false := by simp; omega
        have q6 : ((pk : Int) == 6) = false := by simp; omega
        have q7 : ((pk : Int) == 7) = false := by simp; omega
        simp only at HJ HFin
        generalize bya (L.getD pa []) = D1 at *
        generalize bya (L.getD pb []) = D2 at *
        generalize bya (jnS pk (L.getD pa []) (L.getD pb [])) = D3 at *
        clear hxa hxb k2 k5
        go_wp2_with fail
        refine still_tail 12 (by kernel_rfl) (by kernel_rfl) ?_
        simp only [List.take_succ_cons, List.take_zero, List.drop_succ_cons, List.drop_zero]
        repeat still_step
        refine wpStill_nil ?_
        go_wp2_with fail
        refine (unhide HJ _).mono ?_
        rintro e w2 ⟨rfl, hb2⟩
        have hb2' : Below wr.heap.size wr w2 := (HB1.out _).drew.trans (hb2.mono (by show wr.heap.size ≤ (wr.alloc _).heap.size; rw [size_alloc1]; omega))
        have y1 := HBox.out w2 (((Below.refl _ _).drew).trans (hb2.mono (by show wr.heap.size + 1 ≤ (wr.alloc _).heap.size; rw [size_alloc1]; omega)))
        obtain ⟨r1, r2, r3⟩ := hrt.out w2 hb2'
        have cd := r1 pd hd16
        have fd := r2 pd
        have HE := hide (HFin.out w2 hb2')
        clear hb2 hb2' r1 r2 r3
        go_wp2_with fail
        exact ⟨⟨k + 1, by omega, by go_num, HE.out.1, HE.out.2⟩, by simp [intOf]; omega⟩
      · rw [vS_load rfl] at HFin
        have HJ := hide (fun w' => loaded_ref _ pk' (bdX k) w' hk6 hxa (by omega))
        simp only at HJ HFin
        generalize bya (L.getD pa []) = D1 at *
        generalize bya (ldS (L.getD pa []) pk') = D3 at *
        have x0' : wr.cell? ⟨pg, k * 5, none⟩ = some (.int .i64 6) := x0
        clear hxa hxb x0 cb
        go_wp2_with fail
        refine still_tail 7 (by kernel_rfl) (by kernel_rfl) ?_
        simp only [List.take_succ_cons, List.take_zero, List.drop_succ_cons, List.drop_zero]
        repeat still_step
        refine wpStill_nil ?_
        go_wp2_with fail
        refine (unhide HJ _).mono ?_
        rintro e w2 ⟨rfl, hb2⟩
        have hb2' : Below wr.heap.size wr w2 := (HB1.out _).drew.trans (hb2.mono (by show wr.heap.size ≤ (wr.alloc _).heap.size; rw [size_alloc1]; omega))
        have y1 := HBox.out w2 (((Below.refl _ _).drew).trans (hb2.mono (by show wr.heap.size + 1 ≤ (wr.alloc _).heap.size; rw [size_alloc1]; omega)))
        obtain ⟨r1, r2, r3⟩ := hrt.out w2 hb2'
        have cd := r1 pd hd16
        have fd := r2 pd
        have HE := hide (HFin.out w2 hb2')
        clear hb2 hb2' r1 r2 r3
        go_wp2_with fail
        exact ⟨⟨k + 1, by omega, by go_num, HE.out.1, HE.out.2⟩, by simp [intOf]; omega⟩
      · rw [vS_move rfl] at HFin
        simp only at HFin
        have cd := (hrt.out wr (Below.refl _ _)).1 pd hd16
        have fd := (hrt.out wr (Below.refl _ _)).2.1 pd
        have hgr' : g ≠ wr.heap.size := by omega
        generalize bya (L.getD pa []) = D1 at *
        have x0' : wr.cell? ⟨pg, k * 5, none⟩ = some (.int .i64 7) := x0
        clear hxa hxb x0 cb
        have HE := hide (HFin.out wr (Below.refl _ _))
        go_wp2_with fail
        exact ⟨⟨k + 1, by omega, by go_num, HE.out.1.alloc _, HE.out.2.alloc (by simp; omega) _⟩, by simp [intOf]; omega⟩
    · have hlt' : ¬ (k : Int) < (ps.length : Int) := by omega
      obtain rfl : k = ps.length := by omega
      rw [List.take_length] at hown
      have HO := hide hown
      clear hown hbl
      go_wp2_with fail
      go_ret
      exact ⟨HBl.out, _, rfl, HO.out⟩

/-- The puts of plain words, by the fields that the document reads. -/
theorem vS_word_set {l : List (List UInt8)} {v : Int} (h : fop v = 1) : vS l (putW v) = sCon (fk v).toNat := by unfold putW; rw [if_pos h]; rfl
theorem vS_word_load {l : List (List UInt8)} {v : Int} (h : fop v = 6) : vS l (putW v) = ldS (l.getD (fb v).toNat []) (fk v).toNat := by unfold putW; rw [if_neg (by omega), if_pos h]; rfl
theorem vS_word_op {l : List (List UInt8)} {v : Int} (h2 : 2 ≤ fop v) (h5 : fop v ≤ 5) : vS l (putW v) = jnS (fop v).toNat (l.getD (fb v).toNat []) (l.getD (fc v).toNat []) := by
  unfold putW
  rw [if_neg (by omega), if_neg (by omega)]
  exact vS_op (by dsimp only; omega) (by dsimp only; omega)
theorem putW_d (v : Int) : (putW v).d = (fa v).toNat := by unfold putW; split; rfl; split <;> rfl

set_option maxRecDepth 100000 in
set_option maxHeartbeats 4000000 in
theorem byWords_ref (s : ByteArray) (w : World) (h : blkOK s) :
    Calls Tryd.prog 89 #[.string s] w fun e' w' => Below w.heap.size w w' ∧ ∃ v, e' = .returned v ∧ w'.ownsRow w.heap.size 9 1 v 16 (txCs (comeS (blkPuts s))) := by
  have hs4 := h.1; have hs32 := h.2.1; have hm4 := h.2.2.1
  have HBk := hide h
  have hnp := nPl_le s
  have hnp2 : s.size / 4 - 1 ≤ nPl s := by unfold nPl; split <;> omega
  have hbl : (blkPuts s).length = nPl s := by simp [blkPuts]
  have HXS := hide (fun k (hk : k ≤ (blkPuts s).length) => XSL.fold (blkPuts_ok h) k hk)
  have HBg := hide (begin_ref w)
  have hbp : ∀ k, k < nPl s → (blkPuts s)[k]? = some (putW (wdAt s k : Nat)) := fun k hk => by
    unfold blkPuts
    rw [List.getElem?_map, List.getElem?_range hk]; rfl
  have HBp := hide hbp
  clear hbp h
  go_enter Tryd.func89, Tryd.ntmps89
  go_wp2_with fail
  refine (unhide HBg).mono ?_
  rintro e w0 ⟨hb0, v0, rfl, ho0⟩
  obtain ⟨g, cap, rfl, hgw, hgl⟩ := ho0.form (by decide)
  have HB0 := hide hb0; have HO0 := hide ho0
  clear hb0 ho0 HBg
  go_wp2_with fail
  go_loopw [4] (fun i wr => ∃ k j : Nat, k ≤ s.size / 4 ∧ j = 4 * k ∧ i = .int .i64 j ∧ wr.ownsRow w.heap.size 9 1 (.slice (some ⟨g, 0, none⟩) 16 cap) 16 (txCs (((blkPuts s).take k).foldl stS begS)) ∧ Below w.heap.size w wr) (fun i _ => s.size - (intOf i).toNat)
  case atStart => exact ⟨0, 0, Nat.zero_le _, rfl, rfl, HO0.out, HB0.out⟩
  case round =>
    obtain ⟨k, j, hk, hj, rfl, hown, hbl'⟩ := hrel
    have HBl := hide hbl'
    have HJ := hide hj
    have hwz := hbl'.size
    by_cases hlt : k < s.size / 4
    · have hlt' : (j : Int) < (s.size : Int) := by omega
      have hj4 : j + 4 ≤ s.size := by omega
      have hwl := wdAt_lt s k
      have hv : ∀ w', Calls Tryd.prog 86 #[.string s, .int .i64 (j : Int), .int .i64 4] w' fun e' w'' => e' = .returned (.int .i64 (wdAt s k : Nat)) ∧ w'' = w' := fun w' => by
        have := value_any s j 4 w' (by decide) (by omega) (by omega)
        unfold wdAt
        rw [← hj]
        exact this
      have HV := hide hv
      have hpl := fun w' => plain_any (wdAt s k : Nat) w' (by omega) (by omega)
      by_cases hkp : k < nPl s
      · have hpk : plW (wdAt s k : Nat) = true := blk_plain HBk.out hkp
        have hpk' : plB (fop (wdAt s k : Nat)) (fa (wdAt s k : Nat)) (fb (wdAt s k : Nat)) (fc (wdAt s k : Nat)) = true := hpk
        rw [hpk'] at hpl
        have HPl := hide hpl
        obtain ⟨hal, hcs⟩ := plB_cases hpk
        have HStp : Hid (((blkPuts s).take (k + 1)).foldl stS begS = (((blkPuts s).take k).foldl stS begS).set (fa (wdAt s k : Nat)).toNat (vS (((blkPuts s).take k).foldl stS begS) (putW (wdAt s k : Nat)))) := by
          unfold Hid
          rw [foldl_take_succ _ _ _ _ _ (HBp.out k hkp), ← putW_d]
          rfl
        have hxl := HXS.out k (by omega)
        have hbd := bdX_10 (n := k) (by omega)
        have hrt := hide (fun w2 hb => row_txt hown hxl.1 (w2 := w2) hb)
        have o1 := hide (fun w' => op_any (wdAt s k : Nat) w' (by omega) (by omega))
        have o2 := hide (fun w' => a_any (wdAt s k : Nat) w' (by omega) (by omega))
        have o3 := hide (fun w' => b_any (wdAt s k : Nat) w' (by omega) (by omega))
        have o4 := hide (fun w' => c_any (wdAt s k : Nat) w' (by omega) (by omega))
        have o5 := hide (fun w' => k_any (wdAt s k : Nat) w' (by omega) (by omega))
        have HFin : Hid (∀ w2, Below wr.heap.size wr w2 → (w2.setCell ⟨g, (fa (wdAt s k : Nat)).toNat, none⟩ (.string (bya (vS (((blkPuts s).take k).foldl stS begS) (putW (wdAt s k : Nat)))))).ownsRow w.heap.size 9 1 (.slice (some ⟨g, 0, none⟩) 16 cap) 16 (txCs (((blkPuts s).take (k + 1)).foldl stS begS)) ∧ Below w.heap.size w (w2.setCell ⟨g, (fa (wdAt s k : Nat)).toNat, none⟩ (.string (bya (vS (((blkPuts s).take k).foldl stS begS) (putW (wdAt s k : Nat))))))) := fun w2 hb => by
          rw [HStp.out]
          exact ⟨(hrt.out w2 hb).2.2 _ _, (HBl.out.trans (hb.mono hwz)).setCell hgw _⟩
        have b1 := fa_bd (wdAt s k : Nat); have b2 := fb_bd (wdAt s k : Nat); have b3 := fc_bd (wdAt s k : Nat); have b4 := fk_bd (wdAt s k : Nat)
        have ws := vS_word_set (l := ((blkPuts s).take k).foldl stS begS) (v := (wdAt s k : Nat))
        have wl := vS_word_load (l := ((blkPuts s).take k).foldl stS begS) (v := (wdAt s k : Nat))
        have wo := vS_word_op (l := ((blkPuts s).take k).foldl stS begS) (v := (wdAt s k : Nat))
        clear hv hpl hpk hpk' HStp hown hbl' hj
        generalize putW (wdAt s k : Nat) = PW at *
        generalize ((blkPuts s).take k).foldl stS begS = L at *
        generalize fop (wdAt s k : Nat) = op at *
        obtain ⟨A, hA⟩ := Int.eq_ofNat_of_zero_le b1.1
        obtain ⟨C, hC⟩ := Int.eq_ofNat_of_zero_le b3.1
        obtain ⟨B, hB⟩ := Int.eq_ofNat_of_zero_le b2.1
        obtain ⟨K, hK⟩ := Int.eq_ofNat_of_zero_le b4.1
        rw [hA] at o2 HFin b1 hal
        rw [hB] at o3 b2 hcs wl wo
        rw [hC] at o4 b3 hcs wo
        rw [hK] at o5 b4 ws wl
        simp only [Int.toNat_natCast] at HFin ws wl wo
        generalize wdAt s k = v at *
        clear hA hB hC hK
        have hA8 : A < 8 := by omega
        have hA8' : (A : Int) < 16 := by omega
        have hr0 := hrt.out wr (Below.refl _ _)
        rcases hcs with rfl | ⟨h2, h5, hb8, hc8⟩ | ⟨rfl, hb8⟩
        · rw [ws rfl] at HFin
          have HN := hide (fun w' => number_ref K 4 w' (by decide) (by omega))
          have HC : Hid ((⟨#[35]⟩ : ByteArray) ++ bya (numB 4 K) = bya (sCon K)) := by unfold Hid; rw [show (⟨#[35]⟩ : ByteArray) = bya [35] from rfl, bya_app]; rfl
          rw [← HC.out] at HFin
          have z1 : (bya (numB 4 K)).size ≤ 4 := by rw [bya_size, numB_len]; decide
          generalize bya (numB 4 K) = D1 at *
          clear ws wl wo hr0
          go_wp2_with fail
          refine (unhide HV _).mono ?_
          rintro e w' ⟨rfl, hw⟩
          obtain rfl := hw.symm
          go_wp2_with fail
          refine (unhide HPl _).mono ?_
          rintro e w' ⟨rfl, hw⟩
          obtain rfl := hw.symm
          go_wp2_with fail
          refine (unhide o1 _).mono ?_
          rintro e w' ⟨rfl, hw⟩
          obtain rfl := hw.symm
          go_wp2_with fail
          refine (unhide o2 _).mono ?_
          rintro e w' ⟨rfl, hw⟩
          obtain rfl := hw.symm
          go_wp2_with fail
          refine (unhide o3 _).mono ?_
          rintro e w' ⟨rfl, hw⟩
          obtain rfl := hw.symm
          go_wp2_with fail
          refine (unhide o4 _).mono ?_
          rintro e w' ⟨rfl, hw⟩
          obtain rfl := hw.symm
          go_wp2_with fail
          refine (unhide o5 _).mono ?_
          rintro e w' ⟨rfl, hw⟩
          obtain rfl := hw.symm
          go_wp2_with fail
          refine (unhide HN _).mono ?_
          rintro e w2 ⟨rfl, hb2⟩
          obtain ⟨r1, r2, r3⟩ := hrt.out w2 hb2
          have cd := r1 A (by omega)
          have fd := r2 A
          have HE := hide (HFin.out w2 hb2)
          clear hb2 r1 r2 r3
          go_wp2_with fail
          exact ⟨⟨k + 1, j + 4, by omega, by have := HJ.out; omega, by go_num, HE.out.1, HE.out.2⟩, by simp [intOf]; omega⟩
        · obtain ⟨O, hO⟩ := Int.eq_ofNat_of_zero_le (show 0 ≤ op by omega)
          rw [hO] at o1 h2 h5 wo
          rw [wo (by omega) (by omega)] at HFin
          simp only [Int.toNat_natCast] at HFin
          have HJn := hide (fun w' => joined_ref O (L.getD B []) (L.getD C []) (bdX k) w' (by omega) (by omega) (hxl.at (by omega)) (hxl.at (by omega)) (by omega))
          have q1 : ((O : Int) == 1) = false := by simp; omega
          have q6 : ((O : Int) == 6) = false := by simp; omega
          have cb := hr0.1 B (by omega)
          have cc := hr0.1 C (by omega)
          have hB8' : (B : Int) < 16 := by omega
          have hC8' : (C : Int) < 16 := by omega
          generalize bya (jnS O (L.getD B []) (L.getD C [])) = D3 at *
          generalize bya (L.getD B []) = D1 at *
          generalize bya (L.getD C []) = D2 at *
          clear ws wl wo hr0 hO hxl
          go_wp2_with fail
          refine (unhide HV _).mono ?_
          rintro e w' ⟨rfl, hw⟩
          obtain rfl := hw.symm
          go_wp2_with fail
          refine (unhide HPl _).mono ?_
          rintro e w' ⟨rfl, hw⟩
          obtain rfl := hw.symm
          go_wp2_with fail
          refine (unhide o1 _).mono ?_
          rintro e w' ⟨rfl, hw⟩
          obtain rfl := hw.symm
          go_wp2_with fail
          refine (unhide o2 _).mono ?_
          rintro e w' ⟨rfl, hw⟩
          obtain rfl := hw.symm
          go_wp2_with fail
          refine (unhide o3 _).mono ?_
          rintro e w' ⟨rfl, hw⟩
          obtain rfl := hw.symm
          go_wp2_with fail
          refine (unhide o4 _).mono ?_
          rintro e w' ⟨rfl, hw⟩
          obtain rfl := hw.symm
          go_wp2_with fail
          refine (unhide o5 _).mono ?_
          rintro e w' ⟨rfl, hw⟩
          obtain rfl := hw.symm
          go_wp2_with fail
          refine still_tail 9 (by kernel_rfl) (by kernel_rfl) ?_
          simp only [List.take_succ_cons, List.take_zero, List.drop_succ_cons, List.drop_zero]
          repeat still_step
          refine wpStill_nil ?_
          go_wp2_with fail
          refine (unhide HJn _).mono ?_
          rintro e w2 ⟨rfl, hb2⟩
          have hb2' : Below wr.heap.size wr w2 := ((Below.refl _ _).drew).trans hb2
          obtain ⟨r1, r2, r3⟩ := hrt.out w2 hb2'
          have cd := r1 A (by omega)
          have fd := r2 A
          have HE := hide (HFin.out w2 hb2')
          clear hb2 hb2' r1 r2 r3
          go_wp2_with fail
          exact ⟨⟨k + 1, j + 4, by omega, by have := HJ.out; omega, by go_num, HE.out.1, HE.out.2⟩, by simp [intOf]; omega⟩
        · rw [wl rfl] at HFin
          have HJn := hide (fun w' => loaded_ref (L.getD B []) K (bdX k) w' (by omega) (hxl.at (by omega)) (by omega))
          have cb := hr0.1 B (by omega)
          have hB8' : (B : Int) < 16 := by omega
          generalize bya (ldS (L.getD B []) K) = D3 at *
          generalize bya (L.getD B []) = D1 at *
          clear ws wl wo hr0 hxl
          go_wp2_with fail
          refine (unhide HV _).mono ?_
          rintro e w' ⟨rfl, hw⟩
          obtain rfl := hw.symm
          go_wp2_with fail
          refine (unhide HPl _).mono ?_
          rintro e w' ⟨rfl, hw⟩
          obtain rfl := hw.symm
          go_wp2_with fail
          refine (unhide o1 _).mono ?_
          rintro e w' ⟨rfl, hw⟩
          obtain rfl := hw.symm
          go_wp2_with fail
          refine (unhide o2 _).mono ?_
          rintro e w' ⟨rfl, hw⟩
          obtain rfl := hw.symm
          go_wp2_with fail
          refine (unhide o3 _).mono ?_
          rintro e w' ⟨rfl, hw⟩
          obtain rfl := hw.symm
          go_wp2_with fail
          refine (unhide o4 _).mono ?_
          rintro e w' ⟨rfl, hw⟩
          obtain rfl := hw.symm
          go_wp2_with fail
          refine (unhide o5 _).mono ?_
          rintro e w' ⟨rfl, hw⟩
          obtain rfl := hw.symm
          go_wp2_with fail
          refine (unhide HJn _).mono ?_
          rintro e w2 ⟨rfl, hb2⟩
          obtain ⟨r1, r2, r3⟩ := hrt.out w2 hb2
          have cd := r1 A (by omega)
          have fd := r2 A
          have HE := hide (HFin.out w2 hb2)
          clear hb2 r1 r2 r3
          go_wp2_with fail
          exact ⟨⟨k + 1, j + 4, by omega, by have := HJ.out; omega, by go_num, HE.out.1, HE.out.2⟩, by simp [intOf]; omega⟩
      · have hpk : plW (wdAt s k : Nat) = false := by
          have : k = s.size / 4 - 1 := by omega
          have hn : ¬ plW (wdAt s (s.size / 4 - 1) : Nat) = true := fun hq => by
            unfold nPl at hkp
            rw [if_pos hq] at hkp
            omega
          rw [this]
          simpa using hn
        have hpk' : plB (fop (wdAt s k : Nat)) (fa (wdAt s k : Nat)) (fb (wdAt s k : Nat)) (fc (wdAt s k : Nat)) = false := hpk
        rw [hpk'] at hpl
        have HPl := hide hpl
        have HO' : Hid (wr.ownsRow w.heap.size 9 1 (.slice (some ⟨g, 0, none⟩) 16 cap) 16 (txCs (((blkPuts s).take (k + 1)).foldl stS begS))) := by
          rw [List.take_of_length_le (by omega)] at hown
          unfold Hid
          rw [List.take_of_length_le (by omega)]
          exact hown
        clear hv hpl hpk hpk' hown hbl' hj
        generalize wdAt s k = v at *
        go_wp2_with fail
        refine (unhide HV _).mono ?_
        rintro e w' ⟨rfl, hw⟩
        obtain rfl := hw.symm
        go_wp2_with fail
        refine (unhide HPl _).mono ?_
        rintro e w' ⟨rfl, hw⟩
        obtain rfl := hw.symm
        go_wp2_with fail
        exact ⟨⟨k + 1, j + 4, by omega, by have := HJ.out; omega, by go_num, HO'.out, HBl.out⟩, by simp [intOf]; omega⟩
    · have hlt' : ¬ (j : Int) < (s.size : Int) := by omega
      rw [List.take_of_length_le (by omega)] at hown
      have HO := hide hown
      clear hown hbl' hj
      go_wp2_with fail
      go_ret
      exact ⟨HBl.out, _, rfl, HO.out⟩
end Go.Proofs.YtmmflekajbeamaaDoor
