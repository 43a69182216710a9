/-
  The two devices, the program's and the document's, tell the same: Sim and what every call makes of it.
  The law's stored: a call of one device, the program's and the document's.
-/
import Derived.Test.YtmmflekajbeamaaGreatDoorD24
namespace Go.Proofs.YtmmflekajbeamaaGreatDoor
open Go.RowKit

structure Sim (d : DvN) (r : RvN) : Prop where
  b : ∀ i, i < 2 → d.b i = r.l i ++ r.t i
  n : ∀ i, i < 2 → d.n i = (r.l i).length
  t : (d.tr = 0 ∧ (r.du = 0 ∨ r.du ≤ r.tu)) ∨ (0 < d.tr ∧ r.du = r.tu + d.tr)
theorem Sim.ok {d : DvN} {r : RvN} (h : Sim d r) : DvOK d := fun i hi => by rw [h.b i hi, h.n i hi, List.length_append]; omega
theorem Sim.rok {d : DvN} {r : RvN} {D : Nat} {vs : Nat → Value} {w : World} (h : Sim d r) (hd : DvAt D d vs w) : RvOK r := fun i hi => by have := hd.len i hi; rw [h.b i hi, List.length_append] at this; exact this
theorem Sim.fails {d : DvN} {r : RvN} (h : Sim d r) : d.tr = 1 ↔ r.tu + 1 = r.du := by
  rcases h.t with ⟨h0, h1 | h1⟩ | ⟨h0, h1⟩ <;> omega
theorem Sim.tick {d : DvN} {r : RvN} (h : Sim d r) : Sim d.tick r.tick := by
  refine ⟨h.b, h.n, ?_⟩
  show (d.tr - 1 = 0 ∧ (r.du = 0 ∨ r.du ≤ r.tu + 1)) ∨ (0 < d.tr - 1 ∧ r.du = r.tu + 1 + (d.tr - 1))
  rcases h.t with ⟨h0, h1 | h1⟩ | ⟨h0, h1⟩
  · exact .inl ⟨by omega, .inl h1⟩
  · exact .inl ⟨by omega, .inr (by omega)⟩
  · by_cases h2 : d.tr = 1
    · exact .inl ⟨by omega, .inr (by omega)⟩
    · exact .inr ⟨by omega, by omega⟩
theorem sim_add {d : DvN} {r : RvN} (h : Sim d r) (i : Int) (s : List UInt8) : (dAdd d i s).1 = (rAdd r i s).1 ∧ Sim (dAdd d i s).2 (rAdd r i s).2 := by
  unfold dAdd rAdd
  by_cases hb : i < 0 ∨ 2 ≤ i
  · rw [if_pos hb, if_pos hb]; exact ⟨rfl, h⟩
  rw [if_neg hb, if_neg hb]
  by_cases ht : d.tr = 1
  · rw [if_pos ht, if_pos (h.fails.1 ht)]; exact ⟨rfl, h.tick⟩
  rw [if_neg ht, if_neg (fun e => ht (h.fails.2 e))]
  have hi : i.toNat < 2 := by omega
  have hl : (d.b i.toNat).length = (r.l i.toNat).length + (r.t i.toNat).length := by rw [h.b _ hi, List.length_append]
  by_cases hf : 1500 < (d.b i.toNat).length + s.length
  · rw [if_pos hf, if_pos (by omega)]; exact ⟨rfl, h.tick⟩
  rw [if_neg hf, if_neg (by omega)]
  refine ⟨rfl, ⟨fun j hj => ?_, h.n, h.tick.t⟩⟩
  show upd d.b i.toNat _ j = r.l j ++ upd r.t i.toNat _ j
  by_cases hji : j = i.toNat
  · subst hji; rw [upd_at, upd_at, h.b _ hi, List.append_assoc]
  · rw [upd_ne _ _ _ _ hji, upd_ne _ _ _ _ hji]; exact h.b j hj
theorem sim_clear {d : DvN} {r : RvN} (h : Sim d r) (i : Int) : (dClear d i).1 = (rClear r i).1 ∧ Sim (dClear d i).2 (rClear r i).2 := by
  unfold dClear rClear
  by_cases hb : i < 0 ∨ 2 ≤ i
  · rw [if_pos hb, if_pos hb]; exact ⟨rfl, h⟩
  rw [if_neg hb, if_neg hb]
  by_cases ht : d.tr = 1
  · rw [if_pos ht, if_pos (h.fails.1 ht)]; exact ⟨rfl, h.tick⟩
  rw [if_neg ht, if_neg (fun e => ht (h.fails.2 e))]
  refine ⟨rfl, ⟨fun j hj => ?_, fun j hj => ?_, h.tick.t⟩⟩
  · show upd d.b i.toNat _ j = upd r.l i.toNat _ j ++ upd r.t i.toNat _ j
    by_cases hji : j = i.toNat
    · subst hji; rw [upd_at, upd_at, upd_at]; rfl
    · rw [upd_ne _ _ _ _ hji, upd_ne _ _ _ _ hji, upd_ne _ _ _ _ hji]; exact h.b j hj
  · show upd d.n i.toNat _ j = (upd r.l i.toNat _ j).length
    by_cases hji : j = i.toNat
    · subst hji; rw [upd_at, upd_at]; rfl
    · rw [upd_ne _ _ _ _ hji, upd_ne _ _ _ _ hji]; exact h.n j hj
theorem sim_sync {d : DvN} {r : RvN} (h : Sim d r) (i : Int) : (dSync d i).1 = (rSync r i).1 ∧ Sim (dSync d i).2 (rSync r i).2 := by
  unfold dSync rSync
  by_cases hb : i < 0 ∨ 2 ≤ i
  · rw [if_pos hb, if_pos hb]; exact ⟨rfl, h⟩
  rw [if_neg hb, if_neg hb]
  by_cases ht : d.tr = 1
  · rw [if_pos ht, if_pos (h.fails.1 ht)]; exact ⟨rfl, h.tick⟩
  rw [if_neg ht, if_neg (fun e => ht (h.fails.2 e))]
  have hi : i.toNat < 2 := by omega
  refine ⟨rfl, ⟨fun j hj => ?_, fun j hj => ?_, h.tick.t⟩⟩
  · show d.b j = upd r.l i.toNat _ j ++ upd r.t i.toNat _ j
    by_cases hji : j = i.toNat
    · subst hji; rw [upd_at, upd_at, List.append_nil]; exact h.b _ hi
    · rw [upd_ne _ _ _ _ hji, upd_ne _ _ _ _ hji]; exact h.b j hj
  · show upd d.n i.toNat _ j = (upd r.l i.toNat _ j).length
    by_cases hji : j = i.toNat
    · subst hji; rw [upd_at, upd_at, h.b _ hi]
    · rw [upd_ne _ _ _ _ hji, upd_ne _ _ _ _ hji]; exact h.n j hj
theorem sim_read {d : DvN} {r : RvN} (h : Sim d r) (i : Int) : (dRead d i).1 = (rRead r i).1 ∧ (dRead d i).2.1 = (rRead r i).2.1 ∧ Sim (dRead d i).2.2 (rRead r i).2.2 := by
  unfold dRead rRead
  by_cases hb : i < 0 ∨ 2 ≤ i
  · rw [if_pos hb, if_pos hb]; exact ⟨rfl, rfl, h⟩
  rw [if_neg hb, if_neg hb]
  by_cases ht : d.tr = 1
  · rw [if_pos ht, if_pos (h.fails.1 ht)]; exact ⟨rfl, rfl, h.tick⟩
  rw [if_neg ht, if_neg (fun e => ht (h.fails.2 e))]
  exact ⟨h.b _ (by omega), rfl, h.tick⟩
theorem sim_trouble {d : DvN} {r : RvN} (h : Sim d r) (k : Int) : (dTrouble d k).1 = (rTrouble r k).1 ∧ Sim (dTrouble d k).2 (rTrouble r k).2 := by
  unfold dTrouble rTrouble
  by_cases hb : k < 0
  · rw [if_pos hb, if_pos hb]; exact ⟨rfl, h⟩
  rw [if_neg hb, if_neg hb]
  by_cases h0 : k = 0
  · rw [if_pos h0]
    subst h0
    exact ⟨rfl, ⟨h.b, h.n, .inl ⟨rfl, .inl rfl⟩⟩⟩
  · rw [if_neg h0]
    refine ⟨rfl, ⟨h.b, h.n, .inr ⟨?_, ?_⟩⟩⟩
    · show 0 < k.toNat; omega
    · show k.toNat = 0 + k.toNat; omega
theorem crash_same (l t : List UInt8) (keep : Int) (j : List UInt8) : crB (l ++ t) l.length keep j = rcm l t keep.toNat j t.length := by
  unfold crB rcm
  have e : (l ++ t).length - l.length = t.length := by rw [List.length_append]; omega
  rw [e, Nat.min_comm t.length, List.take_append, List.take_of_length_le (l := l) (by omega), show l.length + min keep.toNat t.length - l.length = min keep.toNat t.length by omega]
theorem crN_old (d : DvN) (keep : Int) (j : List UInt8) (k : Nat) : ∀ m i, m ≤ k → i < m → (crN d keep j m).b i = crB (d.b i) (d.n i) keep j ∧ (crN d keep j m).n i = (crB (d.b i) (d.n i) keep j).length
  | 0, _, _, h => absurd h (Nat.not_lt_zero _)
  | m + 1, i, hm, h => by
    unfold crN
    by_cases he : i = m
    · subst he
      obtain ⟨q1, q2⟩ := crN_at d keep j i i (Nat.le_refl _)
      show upd _ _ _ i = _ ∧ upd _ _ _ i = _
      rw [upd_at, upd_at, q1, q2]
      exact ⟨rfl, rfl⟩
    · have q := crN_old d keep j k m i (by omega) (by omega)
      show upd _ _ _ i = _ ∧ upd _ _ _ i = _
      rw [upd_ne _ _ _ _ he, upd_ne _ _ _ _ he]
      exact q
theorem rcN_old (r : RvN) (keep : Int) (j : List UInt8) : ∀ m i, i < m → (rcN r keep j m).l i = rcm (r.l i) (r.t i) keep.toNat j (r.t i).length ∧ (rcN r keep j m).t i = []
  | 0, _, h => absurd h (Nat.not_lt_zero _)
  | m + 1, i, h => by
    unfold rcN
    by_cases he : i = m
    · subst he
      obtain ⟨q1, q2⟩ := rcN_at r keep j i i (Nat.le_refl _)
      show upd _ _ _ i = _ ∧ upd _ _ _ i = _
      rw [upd_at, upd_at, q1, q2]
      exact ⟨rfl, rfl⟩
    · have q := rcN_old r keep j m i (by omega)
      show upd _ _ _ i = _ ∧ upd _ _ _ i = _
      rw [upd_ne _ _ _ _ he, upd_ne _ _ _ _ he]
      exact q
theorem sim_crash {d : DvN} {r : RvN} (h : Sim d r) (keep : Int) (j : List UInt8) : Sim (dCrash d keep j) (rCrash r keep j) := by
  refine ⟨fun i hi => ?_, fun i hi => ?_, .inl ⟨rfl, .inl rfl⟩⟩
  · show (crN d keep j 2).b i = (rcN r keep j 2).l i ++ (rcN r keep j 2).t i
    rw [(crN_old d keep j 2 2 i (Nat.le_refl _) hi).1, (rcN_old r keep j 2 i hi).1, (rcN_old r keep j 2 i hi).2, List.append_nil, h.b i hi, h.n i hi, crash_same]
  · show (crN d keep j 2).n i = ((rcN r keep j 2).l i).length
    rw [(crN_old d keep j 2 2 i (Nat.le_refl _) hi).2, (rcN_old r keep j 2 i hi).1, h.b i hi, h.n i hi, crash_same]
/-! ### how often it was a turn -/
theorem tu_add (r : RvN) (i : Int) (s : List UInt8) : (rAdd r i s).2.tu ≤ r.tu + 1 := by unfold rAdd; (repeat' split) <;> simp [RvN.tick]
theorem tu_clear (r : RvN) (i : Int) : (rClear r i).2.tu ≤ r.tu + 1 := by unfold rClear; (repeat' split) <;> simp [RvN.tick]
theorem tu_sync (r : RvN) (i : Int) : (rSync r i).2.tu ≤ r.tu + 1 := by unfold rSync; (repeat' split) <;> simp [RvN.tick]
theorem tu_read (r : RvN) (i : Int) : (rRead r i).2.2.tu ≤ r.tu + 1 := by unfold rRead; (repeat' split) <;> simp [RvN.tick]
theorem tu_trouble (r : RvN) (k : Int) : (rTrouble r k).2.tu ≤ r.tu + 1 := by unfold rTrouble; (repeat' split) <;> simp
theorem tu_crash (r : RvN) (keep : Int) (j : List UInt8) : (rCrash r keep j).tu ≤ r.tu + 1 := by
  have : ∀ k, (rcN r keep j k).tu = r.tu := fun k => by induction k with
    | zero => rfl
    | succ k ih => exact ih
  show (rcN r keep j 2).tu ≤ _
  rw [this]
  omega

def rv0 : RvN := ⟨fun _ => [], fun _ => [], 0, 0, 0, 0, 0⟩
theorem sim_new : Sim dv0 rv0 := ⟨fun _ _ => rfl, fun _ _ => rfl, .inl ⟨rfl, .inl rfl⟩⟩
set_option maxRecDepth 100000 in
set_option maxHeartbeats 1000000 in
theorem newRef_any (w : World) :
    Calls Tryz.prog 68 #[] w fun e' w' => e' = .returned (.pointer (some ⟨w.heap.size, 0, none⟩)) ∧ RvAt w.heap.size rv0 w' ∧ w'.heap.size = w.heap.size + 1 ∧ Below w.heap.size w w' := by
  have HW : Hid (∀ W, W = w.alloc (.cells #[.string ⟨#[]⟩, .string ⟨#[]⟩, .string ⟨#[]⟩, .string ⟨#[]⟩, .int .i64 0, .int .i64 0, .int .i64 0, .int .i64 0, .int .i64 0] 179) → RvAt w.heap.size rv0 W ∧ W.heap.size = w.heap.size + 1 ∧ Below w.heap.size w W) := fun W e => by
    have r1 : W.heap[w.heap.size]? = some (.cells #[.string ⟨#[]⟩, .string ⟨#[]⟩, .string ⟨#[]⟩, .string ⟨#[]⟩, .int .i64 0, .int .i64 0, .int .i64 0, .int .i64 0, .int .i64 0] 179 (0, 0)) := by rw [e, _root_.Go.heap_alloc_new]
    have hs : W.heap.size = w.heap.size + 1 := by rw [e, size_alloc1]
    refine ⟨⟨by omega, fun j => by unfold World.frozen?; rw [r1]; simp, fun i hi => ?_, fun i hi => ?_, cell_row r1 4, cell_row r1 5, cell_row r1 6, cell_row r1 7, cell_row r1 8⟩, hs, by rw [e]; exact (Below.refl _ _).alloc (Nat.le_refl _) _⟩
    · have : i = 0 ∨ i = 1 := by omega
      rcases this with rfl | rfl
      · exact cell_row r1 0
      · exact cell_row r1 1
    · have : i = 0 ∨ i = 1 := by omega
      rcases this with rfl | rfl
      · exact cell_row r1 2
      · exact cell_row r1 3
  go_enter Tryz.func68, Tryz.ntmps68
  go_wp2_with fail
  go_ret
  exact ⟨rfl, HW.out _ rfl⟩
end Go.Proofs.YtmmflekajbeamaaGreatDoor

namespace Go.Proofs.YtmmflekajbeamaaGreatDoor
open Go.RowKit

/-- Where a pair of devices lies. -/
structure Pr where
  X : Nat
  D : Nat
  R : Nat
  vs : Nat → Value
def Pr.has (p : Pr) (g : Nat) : Prop := g = p.X ∨ g = p.D ∨ g = p.R ∨ ∃ i, i < 2 ∧ (p.vs i).ownBlock = some g
structure PrAt (p : Pr) (m : Nat) (w : World) : Prop where
  st : ∃ d r, DvAt p.D d p.vs w ∧ RvAt p.R r w ∧ Sim d r ∧ r.tu ≤ m
  x : XAt p.X p.D w
  xlt : p.X < w.heap.size
  dx : p.D < p.X
  dr : p.D < p.R
  xr : p.X ≠ p.R
  own : ∀ i, i < 2 → ∀ g, (p.vs i).ownBlock = some g → g ≠ p.X ∧ g ≠ p.R
structure PrFr (p p' : Pr) (w w' : World) : Prop where
  same : p'.X = p.X ∧ p'.D = p.D ∧ p'.R = p.R
  below : Below p.D w w'
  other : ∀ g, g < w.heap.size → ¬ p.has g → w'.heap[g]? = w.heap[g]?
  own : ∀ g, p'.has g → p.has g ∨ w.heap.size ≤ g
theorem PrAt.lt {p : Pr} {m : Nat} {w : World} (h : PrAt p m w) : ∀ g, p.has g → g < w.heap.size := by
  obtain ⟨d, r, hd, hr, _, _⟩ := h.st
  intro g hg
  rcases hg with rfl | rfl | rfl | ⟨i, hi, e⟩
  · exact h.xlt
  · exact hd.lt
  · exact hr.lt
  · exact (own_ne hd hi e).2
theorem PrAt.ge {p : Pr} {m : Nat} {w : World} (h : PrAt p m w) : ∀ g, p.has g → p.D ≤ g := by
  obtain ⟨d, r, hd, hr, _, _⟩ := h.st
  intro g hg
  have := h.dx; have := h.dr
  rcases hg with rfl | rfl | rfl | ⟨i, hi, e⟩
  · omega
  · omega
  · omega
  · have := (row_lt (hd.own i hi) g e).1; omega
theorem PrAt.up {p : Pr} {m : Nat} {w w' : World} (h : PrAt p m w) (hs : w.heap.size ≤ w'.heap.size) (hb : ∀ g, p.has g → w'.heap[g]? = w.heap[g]?) : PrAt p m w' := by
  obtain ⟨d, r, hd, hr, hsm, ht⟩ := h.st
  exact ⟨⟨d, r, hd.up hs (hb _ (.inr (.inl rfl))) (fun i hi g e => hb g (.inr (.inr (.inr ⟨i, hi, e⟩)))), hr.up hs (hb _ (.inr (.inr (.inl rfl)))), hsm, ht⟩, (World.cell?_of_block (hb _ (.inl rfl))).trans h.x, Nat.lt_of_lt_of_le h.xlt hs, h.dx, h.dr, h.xr, h.own⟩
theorem PrAt.more {p : Pr} {m n : Nat} {w : World} (h : PrAt p m w) (hn : m ≤ n) : PrAt p n w := by
  obtain ⟨d, r, hd, hr, hsm, ht⟩ := h.st
  exact ⟨⟨d, r, hd, hr, hsm, Nat.le_trans ht hn⟩, h.x, h.xlt, h.dx, h.dr, h.xr, h.own⟩
theorem PrFr.refl (p : Pr) (w : World) : PrFr p p w w := ⟨⟨rfl, rfl, rfl⟩, Below.refl _ _, fun _ _ _ => rfl, fun _ h => .inl h⟩
/-- What the document's call finds behind the program's. -/
theorem ref_up {p : Pr} {m : Nat} {w w1 : World} {r : RvN} {vs' : Nat → Value} (h : PrAt p m w) (hr : RvAt p.R r w) (hf : DFr p.D p.vs vs' w w1) : RvAt p.R r w1 :=
  hr.up hf.below.size (hf.other p.R hr.lt (by have := h.dr; omega) (fun i hi e => (h.own i hi p.R e).2 rfl))
theorem pair_step {p : Pr} {m : Nat} {w w1 w2 : World} {d' : DvN} {r' : RvN} {vs' : Nat → Value} (h : PrAt p m w) (hd : DvAt p.D d' vs' w1) (hf : DFr p.D p.vs vs' w w1) (hr : RvAt p.R r' w2) (hg : RFr p.R w1 w2) (hs : Sim d' r') (ht : r'.tu ≤ m + 1) :
    PrAt ⟨p.X, p.D, p.R, vs'⟩ (m + 1) w2 ∧ PrFr p ⟨p.X, p.D, p.R, vs'⟩ w w2 := by
  have hlt := h.lt
  have hR : p.R < w.heap.size := hlt _ (.inr (.inr (.inl rfl)))
  have hov : ∀ i, i < 2 → ∀ g, (vs' i).ownBlock = some g → g ≠ p.X ∧ g ≠ p.R := fun i hi g e => by
    rcases hf.own i hi g e with q | q
    · exact h.own i hi g q
    · have := h.xlt; omega
  have hx1 : w1.heap[p.X]? = w.heap[p.X]? := hf.other p.X h.xlt (by have := h.dx; omega) (fun i hi e => (h.own i hi p.X e).1 rfl)
  refine ⟨⟨⟨d', r', hd.up (by rw [hg.size]; exact Nat.le_refl _) (hg.other _ (by have := h.dr; show p.D ≠ p.R; omega)) (fun i hi g e => hg.other g (hov i hi g e).2), hr, hs, ht⟩, ?_, ?_, h.dx, h.dr, h.xr, hov⟩, ⟨⟨rfl, rfl, rfl⟩, hf.below.trans (hg.below.mono (Nat.le_of_lt h.dr)), fun g hgl hn => ?_, fun g hh => ?_⟩⟩
  · exact (World.cell?_of_block ((hg.other _ h.xr).trans hx1)).trans h.x
  · show p.X < w2.heap.size
    rw [hg.size]
    exact Nat.lt_of_lt_of_le h.xlt hf.below.size
  · refine (hg.other g (fun e => hn (.inr (.inr (.inl e))))).trans (hf.other g hgl (fun e => hn (.inr (.inl e))) (fun i hi e => hn (.inr (.inr (.inr ⟨i, hi, e⟩)))))
  · rcases hh with e | e | e | ⟨i, hi, e⟩
    · exact .inl (.inl e)
    · exact .inl (.inr (.inl e))
    · exact .inl (.inr (.inr (.inl e)))
    · rcases hf.own i hi g e with q | q
      · exact .inl (.inr (.inr (.inr ⟨i, hi, q⟩)))
      · exact .inr q
/-- From a world that has only grown. -/
theorem PrFr.from {p p' : Pr} {m : Nat} {w w1 w2 : World} (h : PrAt p m w) (hb : Below w.heap.size w w1) (k : PrFr p p' w1 w2) : PrFr p p' w w2 := by
  have hD : p.D ≤ w.heap.size := Nat.le_of_lt (h.lt _ (.inr (.inl rfl)))
  refine ⟨k.same, (hb.mono hD).trans k.below, fun g hg hn => (k.other g (Nat.lt_of_lt_of_le hg hb.size) hn).trans (hb.block g hg), fun g hg => ?_⟩
  rcases k.own g hg with q | q
  · exact .inl q
  · exact .inr (Nat.le_trans hb.size q)
/-- A step of a script. -/
def opC (k on a b : Int) (s t : ByteArray) (z : List Int) : Array Value := #[.int .i64 k, .int .i64 on, .int .i64 a, .int .i64 b, .string s, .string t] ++ S z
theorem opC_at (k on a b : Int) (s t : ByteArray) (z : List Int) : (opC k on a b s t z)[0]? = some (.int .i64 k) ∧ (opC k on a b s t z)[1]? = some (.int .i64 on) ∧ (opC k on a b s t z)[2]? = some (.int .i64 a) ∧ (opC k on a b s t z)[4]? = some (.string s) := by
  unfold opC
  refine ⟨?_, ?_, ?_, ?_⟩ <;> (rw [Array.getElem?_append_left (by simp)]; rfl)
def stV (p : Pr) : Array Value := #[.pointer (some ⟨p.X, 0, none⟩), .pointer (some ⟨p.R, 0, none⟩)]
def SPost (p : Pr) (m : Nat) (w : World) (e' : Ending) (w' : World) : Prop := e' = .returned (.bool true) ∧ ∃ p', PrAt p' (m + 1) w' ∧ PrFr p p' w w'
/-- The boxes of a call of stored. -/
structure Bx (p : Pr) (k a : Int) (s : ByteArray) (m : Nat) (w W : World) : Prop where
  pr : PrAt p m W
  bel : Below w.heap.size w W
  size : W.heap.size = w.heap.size + 2
  c0 : W.cell? ⟨w.heap.size, 0, none⟩ = some (.pointer (some ⟨p.X, 0, none⟩))
  c1 : W.cell? ⟨w.heap.size, 1, none⟩ = some (.pointer (some ⟨p.R, 0, none⟩))
  o0 : W.cell? ⟨w.heap.size + 1, 0, none⟩ = some (.int .i64 k)
  o2 : W.cell? ⟨w.heap.size + 1, 2, none⟩ = some (.int .i64 a)
  o4 : W.cell? ⟨w.heap.size + 1, 4, none⟩ = some (.string s)
theorem bx_new {p : Pr} {m : Nat} {w : World} (h : PrAt p m w) (k on a b : Int) (s t : ByteArray) (z : List Int) (W : World) (e : W = (w.alloc (.cells (stV p) 83)).alloc (.cells (opC k on a b s t z) 51)) : Bx p k a s m w W := by
  obtain ⟨W1, hW1⟩ : ∃ W1, W1 = w.alloc (.cells (stV p) 83) := ⟨_, rfl⟩
  rw [← hW1] at e
  have hs1 : W1.heap.size = w.heap.size + 1 := by rw [hW1, size_alloc1]
  have r1 : W1.heap[w.heap.size]? = some (.cells (stV p) 83 (0, 0)) := by rw [hW1, _root_.Go.heap_alloc_new]
  have r2 : W.heap[w.heap.size]? = some (.cells (stV p) 83 (0, 0)) := by rw [e, Below.heap_alloc W1 _ _ (by omega)]; exact r1
  have ro : W.heap[w.heap.size + 1]? = some (.cells (opC k on a b s t z) 51 (0, 0)) := by rw [e, ← hs1, _root_.Go.heap_alloc_new]
  have hs2 : W.heap.size = w.heap.size + 2 := by rw [e, size_alloc1, hs1]
  have hb : Below w.heap.size w W := by rw [e, hW1]; exact ((Below.refl _ _).alloc (Nat.le_refl _) _).alloc (by rw [size_alloc1]; omega) _
  obtain ⟨o0, _, o2, o4⟩ := opC_at k on a b s t z
  exact ⟨h.up hb.size (fun g hg => hb.block g (h.lt g hg)), hb, hs2, cell_row r2 0, cell_row r2 1, (cell_row ro 0).trans o0, (cell_row ro 2).trans o2, (cell_row ro 4).trans o4⟩
/-- The boxes' cells behind the program's call. -/
theorem Bx.keep {p : Pr} {k a : Int} {s : ByteArray} {m : Nat} {w W w1 : World} {vs' : Nat → Value} (h : Bx p k a s m w W) (hw : PrAt p m w) (hf : DFr p.D p.vs vs' W w1) (g j : Nat) (hg : g = w.heap.size ∨ g = w.heap.size + 1) : w1.cell? ⟨g, j, none⟩ = W.cell? ⟨g, j, none⟩ := by
  have hlt := hw.lt
  have hD := hlt _ (.inr (.inl rfl))
  refine World.cell?_of_block (hf.other g (by have := h.size; omega) (by omega) (fun i hi e => ?_))
  have := hlt g (.inr (.inr (.inr ⟨i, hi, e⟩)))
  omega

set_option maxRecDepth 100000 in
set_option maxHeartbeats 2000000 in
theorem storedAdd (p : Pr) (m : Nat) (on a b : Int) (s t : ByteArray) (z : List Int) (w : World) (h : PrAt p m w) (hm : m ≤ 1152921504606846976) (hs : s.size ≤ 140737488351232) :
    Calls Tryz.prog 34 #[.agg (stV p), .agg (opC 21 on a b s t z)] w (SPost p m w) := by
  obtain ⟨W, hW⟩ : ∃ W, W = (w.alloc (.cells (stV p) 83)).alloc (.cells (opC 21 on a b s t z) 51) := ⟨_, rfl⟩
  have HW := hide hW
  have hB := bx_new h 21 on a b s t z W hW
  obtain ⟨d, r, hd, hr, hsm, htu⟩ := hB.pr.st
  have c0 := hB.c0
  have c1 := hB.c1
  have o0 := hB.o0
  have o2 := hB.o2
  have o4 := hB.o4
  have HB := hide hB
  have HH := hide h
  have HC := hide (cAdd_any p.X p.D d p.vs a s W hB.pr.x hd hs)
  have HSm := hide (sim_add hsm a (lst s))
  have HRr := hide hr; have HDd := hide hd; have HSi := hide hsm; have HTu := hide htu; have HM := hide hm
  have HNm := hide (fun n w' => num_any n w')
  have HOp := hide (rfl : stV p = stV p)
  clear h hB hd hr hsm htu hW hm
  generalize hst : stV p = SV at *
  generalize hop : opC 21 on a b s t z = OC at *
  clear hst hop HOp
  go_enter Tryz.func34, Tryz.ntmps34
  go_upto_region 3 with fail
  rw [← HW.out]
  go_wp2_with fail
  refine (unhide HC).mono ?_
  rintro e w1 ⟨rfl, v1, hd1, hf1⟩
  have k1 := (HB.out.keep HH.out hf1 w.heap.size 1 (.inl rfl)).trans c1
  have k2 := (HB.out.keep HH.out hf1 (w.heap.size + 1) 2 (.inr rfl)).trans o2
  have k4 := (HB.out.keep HH.out hf1 (w.heap.size + 1) 4 (.inr rfl)).trans o4
  have hr1 := ref_up HB.out.pr HRr.out hf1
  have HC2 := hide (rAdd_any p.R r a s w1 hr1 (HSi.out.rok HDd.out) (Nat.le_trans HTu.out HM.out) hs)
  have HD1 := hide hd1; have HF1 := hide hf1
  clear HC hd1 hf1 hr1 c0 c1 o0 o2 o4
  go_wp2_with fail
  refine (unhide HC2).mono ?_
  rintro e w2 ⟨rfl, hr2, hg2⟩
  have HP := hide (pair_step HB.out.pr HD1.out HF1.out hr2 hg2 (sim_add HSi.out a (lst s)).2 (Nat.le_trans (tu_add r a (lst s)) (Nat.succ_le_succ HTu.out)))
  clear HC2 hr2 hg2 k1 k2 k4
  rw [HSm.out.1]
  go_wp2_with fail
  refine (unhide HNm _ _).mono ?_
  rintro e w' ⟨rfl, hw⟩
  obtain rfl := hw.symm
  go_wp2_with fail
  go_ret
  exact ⟨rfl, _, HP.out.1, HP.out.2.from HH.out HB.out.bel⟩
set_option maxRecDepth 100000 in
set_option maxHeartbeats 2000000 in
theorem storedClear (p : Pr) (m : Nat) (on a b : Int) (s t : ByteArray) (z : List Int) (w : World) (h : PrAt p m w) (hm : m ≤ 1152921504606846976) :
    Calls Tryz.prog 34 #[.agg (stV p), .agg (opC 22 on a b s t z)] w (SPost p m w) := by
  obtain ⟨W, hW⟩ : ∃ W, W = (w.alloc (.cells (stV p) 83)).alloc (.cells (opC 22 on a b s t z) 51) := ⟨_, rfl⟩
  have HW := hide hW
  have hB := bx_new h 22 on a b s t z W hW
  obtain ⟨d, r, hd, hr, hsm, htu⟩ := hB.pr.st
  have c0 := hB.c0
  have c1 := hB.c1
  have o0 := hB.o0
  have o2 := hB.o2
  have o4 := hB.o4
  have HB := hide hB
  have HH := hide h
  have HC := hide (cClear_any p.X p.D d p.vs a W hB.pr.x hd)
  have HSm := hide (sim_clear hsm a)
  have HRr := hide hr; have HDd := hide hd; have HSi := hide hsm; have HTu := hide htu; have HM := hide hm
  have HNm := hide (fun n w' => num_any n w')
  have HOp := hide (rfl : stV p = stV p)
  clear h hB hd hr hsm htu hW hm
  generalize hst : stV p = SV at *
  generalize hop : opC 22 on a b s t z = OC at *
  clear hst hop HOp
  go_enter Tryz.func34, Tryz.ntmps34
  go_upto_region 3 with fail
  rw [← HW.out]
  go_wp2_with fail
  refine (unhide HC).mono ?_
  rintro e w1 ⟨rfl, v1, hd1, hf1⟩
  have k1 := (HB.out.keep HH.out hf1 w.heap.size 1 (.inl rfl)).trans c1
  have k2 := (HB.out.keep HH.out hf1 (w.heap.size + 1) 2 (.inr rfl)).trans o2
  have k4 := (HB.out.keep HH.out hf1 (w.heap.size + 1) 4 (.inr rfl)).trans o4
  have hr1 := ref_up HB.out.pr HRr.out hf1
  have HC2 := hide (rClear_any p.R r a w1 hr1 (HSi.out.rok HDd.out) (Nat.le_trans HTu.out HM.out))
  have HD1 := hide hd1; have HF1 := hide hf1
  clear HC hd1 hf1 hr1 c0 c1 o0 o2 o4
  go_wp2_with fail
  refine (unhide HC2).mono ?_
  rintro e w2 ⟨rfl, hr2, hg2⟩
  have HP := hide (pair_step HB.out.pr HD1.out HF1.out hr2 hg2 (sim_clear HSi.out a).2 (Nat.le_trans (tu_clear r a) (Nat.succ_le_succ HTu.out)))
  clear HC2 hr2 hg2 k1 k2 k4
  rw [HSm.out.1]
  go_wp2_with fail
  refine (unhide HNm _ _).mono ?_
  rintro e w' ⟨rfl, hw⟩
  obtain rfl := hw.symm
  go_wp2_with fail
  go_ret
  exact ⟨rfl, _, HP.out.1, HP.out.2.from HH.out HB.out.bel⟩
set_option maxRecDepth 100000 in
set_option maxHeartbeats 2000000 in
theorem storedSync (p : Pr) (m : Nat) (on a b : Int) (s t : ByteArray) (z : List Int) (w : World) (h : PrAt p m w) (hm : m ≤ 1152921504606846976) :
    Calls Tryz.prog 34 #[.agg (stV p), .agg (opC 23 on a b s t z)] w (SPost p m w) := by
  obtain ⟨W, hW⟩ : ∃ W, W = (w.alloc (.cells (stV p) 83)).alloc (.cells (opC 23 on a b s t z) 51) := ⟨_, rfl⟩
  have HW := hide hW
  have hB := bx_new h 23 on a b s t z W hW
  obtain ⟨d, r, hd, hr, hsm, htu⟩ := hB.pr.st
  have c0 := hB.c0
  have c1 := hB.c1
  have o0 := hB.o0
  have o2 := hB.o2
  have o4 := hB.o4
  have HB := hide hB
  have HH := hide h
  have HC := hide (cSync_any p.X p.D d p.vs a W hB.pr.x hd)
  have HSm := hide (sim_sync hsm a)
  have HRr := hide hr; have HDd := hide hd; have HSi := hide hsm; have HTu := hide htu; have HM := hide hm
  have HNm := hide (fun n w' => num_any n w')
  have HOp := hide (rfl : stV p = stV p)
  clear h hB hd hr hsm htu hW hm
  generalize hst : stV p = SV at *
  generalize hop : opC 23 on a b s t z = OC at *
  clear hst hop HOp
  go_enter Tryz.func34, Tryz.ntmps34
  go_upto_region 3 with fail
  rw [← HW.out]
  go_wp2_with fail
  refine (unhide HC).mono ?_
  rintro e w1 ⟨rfl, v1, hd1, hf1⟩
  have k1 := (HB.out.keep HH.out hf1 w.heap.size 1 (.inl rfl)).trans c1
  have k2 := (HB.out.keep HH.out hf1 (w.heap.size + 1) 2 (.inr rfl)).trans o2
  have k4 := (HB.out.keep HH.out hf1 (w.heap.size + 1) 4 (.inr rfl)).trans o4
  have hr1 := ref_up HB.out.pr HRr.out hf1
  have HC2 := hide (rSync_any p.R r a w1 hr1 (HSi.out.rok HDd.out) (Nat.le_trans HTu.out HM.out))
  have HD1 := hide hd1; have HF1 := hide hf1
  clear HC hd1 hf1 hr1 c0 c1 o0 o2 o4
  go_wp2_with fail
  refine (unhide HC2).mono ?_
  rintro e w2 ⟨rfl, hr2, hg2⟩
  have HP := hide (pair_step HB.out.pr HD1.out HF1.out hr2 hg2 (sim_sync HSi.out a).2 (Nat.le_trans (tu_sync r a) (Nat.succ_le_succ HTu.out)))
  clear HC2 hr2 hg2 k1 k2 k4
  rw [HSm.out.1]
  go_wp2_with fail
  refine (unhide HNm _ _).mono ?_
  rintro e w' ⟨rfl, hw⟩
  obtain rfl := hw.symm
  go_wp2_with fail
  go_ret
  exact ⟨rfl, _, HP.out.1, HP.out.2.from HH.out HB.out.bel⟩
set_option maxRecDepth 100000 in
set_option maxHeartbeats 2000000 in
theorem storedRead (p : Pr) (m : Nat) (on a b : Int) (s t : ByteArray) (z : List Int) (w : World) (h : PrAt p m w) (hm : m ≤ 1152921504606846976) :
    Calls Tryz.prog 34 #[.agg (stV p), .agg (opC 24 on a b s t z)] w (SPost p m w) := by
  obtain ⟨W, hW⟩ : ∃ W, W = (w.alloc (.cells (stV p) 83)).alloc (.cells (opC 24 on a b s t z) 51) := ⟨_, rfl⟩
  have HW := hide hW
  have hB := bx_new h 24 on a b s t z W hW
  obtain ⟨d, r, hd, hr, hsm, htu⟩ := hB.pr.st
  have c0 := hB.c0
  have c1 := hB.c1
  have o0 := hB.o0
  have o2 := hB.o2
  have o4 := hB.o4
  have HB := hide hB
  have HH := hide h
  have HC := hide (cRead_any p.X p.D d p.vs a W hB.pr.x hd)
  have HSm := hide (sim_read hsm a)
  have HRr := hide hr; have HDd := hide hd; have HSi := hide hsm; have HTu := hide htu; have HM := hide hm
  have HNm := hide (fun n w' => num_any n w')
  have HOp := hide (rfl : stV p = stV p)
  clear h hB hd hr hsm htu hW hm
  generalize hst : stV p = SV at *
  generalize hop : opC 24 on a b s t z = OC at *
  clear hst hop HOp
  go_enter Tryz.func34, Tryz.ntmps34
  go_upto_region 3 with fail
  rw [← HW.out]
  go_wp2_with fail
  refine (unhide HC).mono ?_
  rintro e w1 ⟨rfl, v1, hd1, hf1⟩
  have k1 := (HB.out.keep HH.out hf1 w.heap.size 1 (.inl rfl)).trans c1
  have k2 := (HB.out.keep HH.out hf1 (w.heap.size + 1) 2 (.inr rfl)).trans o2
  have k4 := (HB.out.keep HH.out hf1 (w.heap.size + 1) 4 (.inr rfl)).trans o4
  have hr1 := ref_up HB.out.pr HRr.out hf1
  have HC2 := hide (rRead_any p.R r a w1 hr1 (HSi.out.rok HDd.out) (Nat.le_trans HTu.out HM.out))
  have HD1 := hide hd1; have HF1 := hide hf1
  clear HC hd1 hf1 hr1 c0 c1 o0 o2 o4
  go_wp2_with fail
  refine (unhide HC2).mono ?_
  rintro e w2 ⟨rfl, hr2, hg2⟩
  have HP := hide (pair_step HB.out.pr HD1.out HF1.out hr2 hg2 (sim_read HSi.out a).2.2 (Nat.le_trans (tu_read r a) (Nat.succ_le_succ HTu.out)))
  clear HC2 hr2 hg2 k1 k2 k4
  rw [HSm.out.1, HSm.out.2.1]
  go_wp2_with fail
  refine (unhide HNm _ _).mono ?_
  rintro e w' ⟨rfl, hw⟩
  obtain rfl := hw.symm
  go_wp2_with fail
  go_ret
  exact ⟨rfl, _, HP.out.1, HP.out.2.from HH.out HB.out.bel⟩
set_option maxRecDepth 100000 in
set_option maxHeartbeats 2000000 in
theorem storedTrouble (p : Pr) (m : Nat) (on a b : Int) (s t : ByteArray) (z : List Int) (w : World) (h : PrAt p m w) (hm : m ≤ 1152921504606846976) (ha : a ≤ 9223372036854775807) :
    Calls Tryz.prog 34 #[.agg (stV p), .agg (opC 25 on a b s t z)] w (SPost p m w) := by
  obtain ⟨W, hW⟩ : ∃ W, W = (w.alloc (.cells (stV p) 83)).alloc (.cells (opC 25 on a b s t z) 51) := ⟨_, rfl⟩
  have HW := hide hW
  have hB := bx_new h 25 on a b s t z W hW
  obtain ⟨d, r, hd, hr, hsm, htu⟩ := hB.pr.st
  have c0 := hB.c0
  have c1 := hB.c1
  have o0 := hB.o0
  have o2 := hB.o2
  have o4 := hB.o4
  have HB := hide hB
  have HH := hide h
  have HC := hide (cTrouble_any p.X p.D d p.vs a W hB.pr.x hd ha)
  have HSm := hide (sim_trouble hsm a)
  have HRr := hide hr; have HDd := hide hd; have HSi := hide hsm; have HTu := hide htu; have HM := hide hm
  have HNm := hide (fun n w' => num_any n w')
  have HOp := hide (rfl : stV p = stV p)
  clear h hB hd hr hsm htu hW hm ha
  generalize hst : stV p = SV at *
  generalize hop : opC 25 on a b s t z = OC at *
  clear hst hop HOp
  go_enter Tryz.func34, Tryz.ntmps34
  go_upto_region 3 with fail
  rw [← HW.out]
  go_wp2_with fail
  refine (unhide HC).mono ?_
  rintro e w1 ⟨rfl, v1, hd1, hf1⟩
  have k1 := (HB.out.keep HH.out hf1 w.heap.size 1 (.inl rfl)).trans c1
  have k2 := (HB.out.keep HH.out hf1 (w.heap.size + 1) 2 (.inr rfl)).trans o2
  have k4 := (HB.out.keep HH.out hf1 (w.heap.size + 1) 4 (.inr rfl)).trans o4
  have hr1 := ref_up HB.out.pr HRr.out hf1
  have HC2 := hide (rTrouble_any p.R r a w1 hr1)
  have HD1 := hide hd1; have HF1 := hide hf1
  clear HC hd1 hf1 hr1 c0 c1 o0 o2 o4
  go_wp2_with fail
  refine (unhide HC2).mono ?_
  rintro e w2 ⟨rfl, hr2, hg2⟩
  have HP := hide (pair_step HB.out.pr HD1.out HF1.out hr2 hg2 (sim_trouble HSi.out a).2 (Nat.le_trans (tu_trouble r a) (Nat.succ_le_succ HTu.out)))
  clear HC2 hr2 hg2 k1 k2 k4
  rw [HSm.out.1]
  go_wp2_with fail
  refine (unhide HNm _ _).mono ?_
  rintro e w' ⟨rfl, hw⟩
  obtain rfl := hw.symm
  go_wp2_with fail
  go_ret
  exact ⟨rfl, _, HP.out.1, HP.out.2.from HH.out HB.out.bel⟩
set_option maxRecDepth 100000 in
set_option maxHeartbeats 2000000 in
theorem storedCrash (p : Pr) (m : Nat) (on a b : Int) (s t : ByteArray) (z : List Int) (w : World) (h : PrAt p m w) (hm : m ≤ 1152921504606846976) (hs : s.size ≤ 140737488351232) :
    Calls Tryz.prog 34 #[.agg (stV p), .agg (opC 26 on a b s t z)] w (SPost p m w) := by
  obtain ⟨W, hW⟩ : ∃ W, W = (w.alloc (.cells (stV p) 83)).alloc (.cells (opC 26 on a b s t z) 51) := ⟨_, rfl⟩
  have HW := hide hW
  have hB := bx_new h 26 on a b s t z W hW
  obtain ⟨d, r, hd, hr, hsm, htu⟩ := hB.pr.st
  have c0 := hB.c0
  have c1 := hB.c1
  have o0 := hB.o0
  have o2 := hB.o2
  have o4 := hB.o4
  have HB := hide hB
  have HH := hide h
  have HC := hide (cCrash_any p.X p.D d p.vs a s W hB.pr.x hd hsm.ok)
  have HSm := hide (sim_crash hsm a (lst s))
  have HRr := hide hr; have HDd := hide hd; have HSi := hide hsm; have HTu := hide htu; have HM := hide hm
  have HNm := hide (fun n w' => num_any n w')
  have HOp := hide (rfl : stV p = stV p)
  clear h hB hd hr hsm htu hW hm
  generalize hst : stV p = SV at *
  generalize hop : opC 26 on a b s t z = OC at *
  clear hst hop HOp
  go_enter Tryz.func34, Tryz.ntmps34
  go_upto_region 3 with fail
  rw [← HW.out]
  go_wp2_with fail
  refine (unhide HC).mono ?_
  rintro e w1 ⟨rfl, v1, hd1, hf1⟩
  have k1 := (HB.out.keep HH.out hf1 w.heap.size 1 (.inl rfl)).trans c1
  have k2 := (HB.out.keep HH.out hf1 (w.heap.size + 1) 2 (.inr rfl)).trans o2
  have k4 := (HB.out.keep HH.out hf1 (w.heap.size + 1) 4 (.inr rfl)).trans o4
  have hr1 := ref_up HB.out.pr HRr.out hf1
  have HC2 := hide (rCrash_any p.R r a s w1 hr1 (HSi.out.rok HDd.out) hs)
  have HD1 := hide hd1; have HF1 := hide hf1
  clear HC hd1 hf1 hr1 c0 c1 o0 o2 o4
  go_wp2_with fail
  refine (unhide HC2).mono ?_
  rintro e w2 ⟨rfl, hr2, hg2⟩
  have HP := hide (pair_step HB.out.pr HD1.out HF1.out hr2 hg2 (sim_crash HSi.out a (lst s)) (Nat.le_trans (tu_crash r a (lst s)) (Nat.succ_le_succ HTu.out)))
  clear HC2 hr2 hg2 k1 k2 k4
  go_wp2_with fail
  refine (unhide HNm _ _).mono ?_
  rintro e w' ⟨rfl, hw⟩
  obtain rfl := hw.symm
  go_wp2_with fail
  go_ret
  exact ⟨rfl, _, HP.out.1, HP.out.2.from HH.out HB.out.bel⟩
set_option maxRecDepth 100000 in
set_option maxHeartbeats 2000000 in
theorem storedNone (p : Pr) (m : Nat) (k on a b : Int) (s t : ByteArray) (z : List Int) (w : World) (h : PrAt p m w) (hk : k < 21 ∨ 26 < k) :
    Calls Tryz.prog 34 #[.agg (stV p), .agg (opC k on a b s t z)] w (SPost p m w) := by
  obtain ⟨W, hW⟩ : ∃ W, W = (w.alloc (.cells (stV p) 83)).alloc (.cells (opC k on a b s t z) 51) := ⟨_, rfl⟩
  have HW := hide hW
  have hB := bx_new h k on a b s t z W hW
  have o0 := hB.o0
  have HP := hide (And.intro (hB.pr.more (Nat.le_succ m)) (PrFr.from h hB.bel (PrFr.refl p W)))
  have HNm := hide (fun n w' => num_any n w')
  have e1 : (k == 21) = false := by rw [beq_eq_false_iff_ne]; omega
  have e2 : (k == 22) = false := by rw [beq_eq_false_iff_ne]; omega
  have e3 : (k == 23) = false := by rw [beq_eq_false_iff_ne]; omega
  have e4 : (k == 24) = false := by rw [beq_eq_false_iff_ne]; omega
  have e5 : (k == 25) = false := by rw [beq_eq_false_iff_ne]; omega
  have e6 : (k == 26) = false := by rw [beq_eq_false_iff_ne]; omega
  clear h hB hW hk
  generalize hst : stV p = SV at *
  generalize hop : opC k on a b s t z = OC at *
  clear hst hop
  go_enter Tryz.func34, Tryz.ntmps34
  go_upto_region 3 with fail
  rw [← HW.out]
  go_wp2_with fail
  refine (unhide HNm _ _).mono ?_
  rintro e w' ⟨rfl, hw⟩
  obtain rfl := hw.symm
  go_wp2_with fail
  go_ret
  exact ⟨rfl, _, HP.out.1, HP.out.2⟩
end Go.Proofs.YtmmflekajbeamaaGreatDoor
