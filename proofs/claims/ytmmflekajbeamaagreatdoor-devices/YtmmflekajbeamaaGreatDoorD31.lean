/-
  The law's world of devices: NewDevice (World.device).
  The law's world of devices: a step (World.step) of the kinds of devices.
  The law's step (World.step), of the kinds of devices.
  The law's step of a device that there is; every step of the kinds of devices.
  THE LAW Devices: what it begins with (criblaw.begins), the book that has nothing (Book.looks).
-/
import Derived.Test.YtmmflekajbeamaaGreatDoorD25
import Derived.Test.YtmmflekajbeamaaGreatDoorD30
import Derived.Deep.MidRow
import Derived.Great.BuildSlice
namespace Go.Proofs.YtmmflekajbeamaaGreatDoor
open Go.RowKit

theorem stored_any (p : Pr) (m : Nat) (k on a b : Int) (s t : ByteArray) (z : List Int) (w : World) (h : PrAt p m w) (hm : m ≤ 1152921504606846976) (hs : s.size ≤ 140737488351232) (ha : a ≤ 9223372036854775807) :
    Calls Tryz.prog 34 #[.agg (stV p), .agg (opC k on a b s t z)] w (SPost p m w) := by
  by_cases h1 : k = 21
  · subst h1; exact storedAdd p m on a b s t z w h hm hs
  by_cases h2 : k = 22
  · subst h2; exact storedClear p m on a b s t z w h hm
  by_cases h3 : k = 23
  · subst h3; exact storedSync p m on a b s t z w h hm
  by_cases h4 : k = 24
  · subst h4; exact storedRead p m on a b s t z w h hm
  by_cases h5 : k = 25
  · subst h5; exact storedTrouble p m on a b s t z w h hm ha
  by_cases h6 : k = 26
  · subst h6; exact storedCrash p m on a b s t z w h hm hs
  exact storedNone p m k on a b s t z w h (by omega)
def stCs (ps : List Pr) : List Value := (ps.map fun p => (stV p).toList).flatten
theorem stCs_app (ps qs : List Pr) : stCs (ps ++ qs) = stCs ps ++ stCs qs := by simp [stCs]
/-- A world of the law with devices alone. -/
structure WAt (N : Nat) (ps : List Pr) (sv : Value) (m : Nat) (w : World) : Prop where
  lt : N < w.heap.size
  fz : ∀ j, w.frozen? ⟨N, j, none⟩ = false
  bk : ∀ j, j < 3 → w.cell? ⟨N, j, none⟩ = some (.slice none 0 0)
  st : w.cell? ⟨N, 3, none⟩ = some sv
  hd : w.cell? ⟨N, 4, none⟩ = some (.slice none 0 0)
  own : w.ownsRow (N + 1) 83 2 sv ps.length (stCs ps)
  pr : ∀ (i : Nat) (p : Pr), ps[i]? = some p → PrAt p m w ∧ N < p.D
  sep : ∀ (i j : Nat) (p q : Pr), ps[i]? = some p → ps[j]? = some q → i ≠ j → ∀ g, p.has g → ¬ q.has g
  row : ∀ (i : Nat) (p : Pr), ps[i]? = some p → ∀ g, p.has g → sv.ownBlock ≠ some g
theorem infoSt : ∃ i, Tryz.prog.info? 83 = some i ∧ i.zero = some (.agg #[.pointer none, .pointer none]) ∧ i.size = 2 ∧ i.bytes = 16 := by
  have h : (Tryz.prog.info? 83).map (fun i => (i.zero, i.size, i.bytes)) = some (some (.agg #[.pointer none, .pointer none]), 2, 16) := by kernel_rfl
  cases hq : Tryz.prog.info? 83 with
  | none => rw [hq] at h; cases h
  | some i =>
    rw [hq] at h
    simp at h
    exact ⟨i, rfl, h.1, h.2.1, h.2.2⟩
theorem WAt.up {N : Nat} {ps : List Pr} {sv : Value} {m : Nat} {w w' : World} (h : WAt N ps sv m w) (hb : Below w.heap.size w w') : WAt N ps sv m w' := by
  have hN := hb.block N h.lt
  exact ⟨Nat.lt_of_lt_of_le h.lt hb.size, fun j => (World.frozen?_of_block hN).trans (h.fz j), fun j hj => (World.cell?_of_block hN).trans (h.bk j hj), (World.cell?_of_block hN).trans h.st, (World.cell?_of_block hN).trans h.hd, own_grow h.own hb, fun i p hp => ⟨(h.pr i p hp).1.up hb.size (fun g hg => hb.block g ((h.pr i p hp).1.lt g hg)), (h.pr i p hp).2⟩, h.sep, h.row⟩
/-- A device more. -/
theorem WAt.push {N : Nat} {ps : List Pr} {sv v : Value} {m : Nat} {w w3 : World} {p : Pr} {n : Nat} (h : WAt N ps sv m w) (hn : w.heap.size = n) (hp : PrAt p m w) (hpD : N < p.D) (hf : ∀ q ∈ ps, ∀ g, q.has g → ¬ p.has g) (hfr : ∀ g, p.has g → sv.ownBlock ≠ some g)
    (ho : w3.ownsRow (N + 1) 83 2 v (ps.length + 1) (stCs ps ++ (stV p).toList)) (hg : w.grownBy w3 sv.ownBlock) (hv : sv.ownBlock = v.ownBlock ∨ v.ownBlock = some n) :
    WAt N (ps ++ [p]) v m (w3.setCell ⟨N, 3, none⟩ v) ∧ Below N w (w3.setCell ⟨N, 3, none⟩ v) := by
  have hN : w3.heap[N]? = w.heap[N]? := hg.block N h.lt (fun e => by have := (row_lt h.own N e.symm).1; omega)
  have hall : ∀ (i : Nat) (q : Pr), (ps ++ [p])[i]? = some q → PrAt q m w ∧ N < q.D ∧ ∀ g, q.has g → sv.ownBlock ≠ some g := fun i q hq => by
    rcases Nat.lt_or_ge i ps.length with hi | hi
    · rw [List.getElem?_append_left hi] at hq
      exact ⟨(h.pr i q hq).1, (h.pr i q hq).2, h.row i q hq⟩
    · rw [List.getElem?_append_right hi] at hq
      have : q = p := by
        cases hk : i - ps.length with
        | zero => rw [hk] at hq; simpa using hq.symm
        | succ k => rw [hk] at hq; simp at hq
      subst this
      exact ⟨hp, hpD, hfr⟩
  have hkeep : ∀ (i : Nat) (q : Pr), (ps ++ [p])[i]? = some q → ∀ g, q.has g → (w3.setCell ⟨N, 3, none⟩ v).heap[g]? = w.heap[g]? := fun i q hq g hgq => by
    obtain ⟨a1, a2, a3⟩ := hall i q hq
    have h1 := a1.ge g hgq
    exact (set_other (by omega)).trans (hg.block g (a1.lt g hgq) (fun e => a3 g hgq e.symm))
  refine ⟨⟨by rw [set_size]; exact Nat.lt_of_lt_of_le h.lt hg.size, fun j => by rw [World.frozen?_setCell]; exact (World.frozen?_of_block hN).trans (h.fz j), fun j hj => (cell_off (by omega)).trans ((World.cell?_of_block hN).trans (h.bk j hj)), World.cell?_setCell_same _ _ _ ((World.cell?_of_block hN).trans h.st), (cell_off (by decide)).trans ((World.cell?_of_block hN).trans h.hd), ?_, fun i q hq => ⟨(hall i q hq).1.up (by rw [set_size]; exact hg.size) (hkeep i q hq), (hall i q hq).2.1⟩, fun i j q q' hq hq' hij g hg1 hg2 => ?_, fun i q hq g hgq e => ?_⟩, ?_⟩
  · rw [List.length_append, stCs_app]
    have e1 : stCs [p] = (stV p).toList := by simp [stCs]
    rw [e1]
    exact ownsRow_keep ho (fun g e => set_other (by have := (row_lt ho g e).1; omega))
  · have key : ∀ (i : Nat) (q : Pr), (ps ++ [p])[i]? = some q → (i < ps.length ∧ ps[i]? = some q) ∨ (i = ps.length ∧ q = p) := fun i q hq => by
      rcases Nat.lt_or_ge i ps.length with hi | hi
      · rw [List.getElem?_append_left hi] at hq
        exact .inl ⟨hi, hq⟩
      · rw [List.getElem?_append_right hi] at hq
        cases hk : i - ps.length with
        | zero => rw [hk] at hq; exact .inr ⟨by omega, by simpa using hq.symm⟩
        | succ k => rw [hk] at hq; simp at hq
    rcases key i q hq with ⟨l1, k1⟩ | ⟨l1, rfl⟩ <;> rcases key j q' hq' with ⟨l2, k2⟩ | ⟨l2, rfl⟩
    · exact h.sep i j q q' k1 k2 hij g hg1 hg2
    · exact hf q (List.mem_of_getElem? k1) g hg1 hg2
    · exact hf q' (List.mem_of_getElem? k2) g hg2 hg1
    · omega
  · obtain ⟨a1, _, a3⟩ := hall i q hq
    rcases hv with k | k
    · exact a3 g hgq (k.trans e)
    · rw [k] at e
      cases e
      have := a1.lt _ hgq
      omega
  · exact ((Below.refl N w).grown hg (Nat.le_of_lt h.lt) (fun q hq => by have := (row_lt h.own q hq).1; omega)).setCell (p := ⟨N, 3, none⟩) (Nat.le_refl _) _

set_option maxRecDepth 100000 in
set_option maxHeartbeats 4000000 in
theorem device_any (N : Nat) (ps : List Pr) (sv : Value) (m : Nat) (w : World) (h : WAt N ps sv m w) (hl : ps.length ≤ 1000000000000) :
    Calls Tryz.prog 33 #[.pointer (some ⟨N, 0, none⟩)] w fun e' w' => e' = .returned (.bool true) ∧ ∃ p sv', WAt N (ps ++ [p]) sv' m w' ∧ Below N w w' := by
  have HH := hide h; have HL := hide hl
  have HX := hide (newDevice_any w)
  have HR := hide (fun w' => newRef_any w')
  have hN := h.lt
  clear h hl
  go_enter Tryz.func33, Tryz.ntmps33
  go_wp2_with fail
  refine (unhide HX).mono ?_
  rintro e w1 ⟨rfl, hd1, hx1, hs1, hb1⟩
  have HD1 := hide hd1; have HX1 := hide hx1; have HS1 := hide hs1; have HB1 := hide hb1
  clear hd1 hx1 hs1 hb1 HX
  go_wp2_with fail
  refine (unhide HR _).mono ?_
  rintro e w2 ⟨rfl, hr2, hs2, hb2⟩
  rw [HS1.out] at hr2 hs2 ⊢
  have hb2' : Below (w.heap.size + 2) w1 w2 := by rw [← HS1.out]; exact hb2
  obtain ⟨p, hp⟩ : ∃ p : Pr, p = ⟨w.heap.size + 1, w.heap.size, w.heap.size + 2, nilV⟩ := ⟨_, rfl⟩
  have HBw : Hid (Below w.heap.size w w2) := HB1.out.trans (hb2'.mono (by omega))
  have HPr : Hid (PrAt p m w2) := by
    unfold Hid
    rw [hp]
    have e1 : ∀ g, g < w.heap.size + 2 → w2.heap[g]? = w1.heap[g]? := fun g hg => hb2'.block g hg
    refine ⟨⟨dv0, rv0, HD1.out.up hb2'.size (e1 _ (by show w.heap.size < _; omega)) (fun i hi g e => by cases e), hr2, sim_new, Nat.zero_le _⟩, (World.cell?_of_block (e1 _ (by show w.heap.size + 1 < _; omega))).trans HX1.out, by show w.heap.size + 1 < _; omega, by show w.heap.size < w.heap.size + 1; omega, by show w.heap.size < w.heap.size + 2; omega, by show w.heap.size + 1 ≠ w.heap.size + 2; omega, fun i hi g e => by cases e⟩
  have HW2 := hide (HH.out.up HBw.out)
  have c3 := HW2.out.st
  have f3 := HW2.out.fz 3
  obtain ⟨sa, sc, hsv⟩ := owns_len HW2.out.own
  have HSv := hide hsv
  rw [hsv] at c3
  have hO := HW2.out.own
  rw [hsv] at hO
  have HO := hide hO
  have HSt : Hid ((stV p).toList = [.pointer (some ⟨w.heap.size + 1, 0, none⟩), .pointer (some ⟨w.heap.size + 2, 0, none⟩)]) := by unfold Hid; rw [hp]; rfl
  have HP := hide hp
  obtain ⟨inf, hinf, hzi, hsz1, hby⟩ := infoSt
  have HInf := hide hinf; have HZi := hide hzi; have HSz := hide hsz1; have HBy := hide hby
  clear hinf hzi hsz1 hby hr2 hb2 hb2' hO hsv hp HR
  generalize hle : ps.length = L at *
  have HLe := hide hle
  clear hle
  have hz2 : w2.heap.size = w.heap.size + 3 := hs2
  have HZ2 := hide hz2
  have hNw : N + 1 ≤ w2.heap.size := by omega
  clear hs2 hz2
  go_wp2_with (at_builtin; refine wpList_append_lies _ rfl _ _ 46 rfl (N + 1) 83 inf _ 2 16 Tryz.underlying46 HInf.out HZi.out HSz.out HBy.out rfl (by decide) (.slice sa L sc) L (stCs ps) rfl (HO.out.alloc _) ⟨w2.heap.size, 0, none⟩ 1 1 [.pointer (some ⟨w.heap.size + 1, 0, none⟩), .pointer (some ⟨w.heap.size + 2, 0, none⟩)] rfl rfl (World.news_of_block (_root_.Go.heap_alloc_new w2 _)) (fun u hu => by simp at hu; rcases hu with rfl | rfl <;> rfl) (by decide) (by have := HL.out; unfold maxLen; omega) (by have := HL.out; omega) (by rw [size_alloc1]; omega) (w2.heap.size + 1) (by rw [size_alloc1]) ?_
               intro g1 c1 w3 ho1 hg1 ha1 hl1
               have hD : w3.heap[N]? = w2.heap[N]? := (hg1.block N (by rw [size_alloc1]; omega) (fun e => by have := (row_lt HO.out N e.symm).1; omega)).trans (Below.heap_alloc w2 _ N (by omega))
               have c4 := (World.cell?_of_block (a := ⟨N, 3, none⟩) hD).trans c3
               have f4 := (World.frozen?_of_block (a := ⟨N, 3, none⟩) hD).trans f3
               have HO1 := hide ho1; have HG1 := hide hg1; have HA1 := hide ha1
               clear ho1 hg1 ha1 hl1 hD c3 f3)
  go_ret
  have hb0 : Below w2.heap.size w2 (w2.alloc (.cells #[.pointer (some ⟨w.heap.size + 1, 0, none⟩), .pointer (some ⟨w.heap.size + 2, 0, none⟩)] 83)) := (Below.refl _ _).alloc (Nat.le_refl _) _
  have hpb : ∀ g, p.has g → w.heap.size ≤ g := fun g hg => by
    rw [HP.out] at hg
    rcases hg with rfl | rfl | rfl | ⟨i, _, e⟩
    · show w.heap.size ≤ w.heap.size + 1; omega
    · exact Nat.le_refl _
    · show w.heap.size ≤ w.heap.size + 2; omega
    · cases e
  have ho := HO1.out
  rw [← HSt.out] at ho
  have hsv := HSv.out
  have hv1 : sv.ownBlock = (Value.slice (some ⟨g1, 0, none⟩) (L + 1) c1).ownBlock ∨ (Value.slice (some ⟨g1, 0, none⟩) (L + 1) c1).ownBlock = some (w2.heap.size + 1) := by
    rw [hsv]
    rcases HA1.out with a | a
    · exact .inl a
    · exact .inr (congrArg some a)
  have k := (HW2.out.up hb0).push (p := p) (v := .slice (some ⟨g1, 0, none⟩) (L + 1) c1) (n := w2.heap.size + 1) (size_alloc1 _ _) (HPr.out.up hb0.size (fun g hg => hb0.block g (HPr.out.lt g hg))) (by rw [HP.out]; exact hN)
    (fun q hq g h1 h2 => by
      obtain ⟨i, hi⟩ := List.getElem?_of_mem hq
      have := (HH.out.pr i q hi).1.lt g h1
      have := hpb g h2
      omega)
    (fun g hg e => by have := (row_lt HH.out.own g e).2; have := hpb g hg; omega)
    (by rw [HLe.out]; exact ho) (by rw [hsv]; exact HG1.out) hv1
  exact ⟨rfl, p, _, k.1, ((HBw.out.mono (Nat.le_of_lt hN)).alloc (by have := HBw.out.size; omega) _).trans k.2⟩
end Go.Proofs.YtmmflekajbeamaaGreatDoor

namespace Go.Proofs.YtmmflekajbeamaaGreatDoor
open Go.RowKit

theorem stCs_set (ps : List Pr) (i : Nat) (p p' : Pr) (hi : ps[i]? = some p) (he : stV p' = stV p) : stCs (ps.set i p') = stCs ps := by
  unfold stCs
  rw [List.map_set]
  congr 1
  apply List.ext_getElem?
  intro j
  rw [List.getElem?_set]
  split
  · rename_i h
    subst h
    split
    · rw [List.getElem?_map, hi, he]; rfl
    · rename_i h1
      rw [List.getElem?_eq_none (by omega)]
  · rfl
theorem WAt.set {N : Nat} {ps : List Pr} {sv : Value} {m : Nat} {w w' : World} (h : WAt N ps sv m w) {i : Nat} {p p' : Pr} (hi : ps[i]? = some p) (hp : PrAt p' (m + 1) w') (hf : PrFr p p' w w') : WAt N (ps.set i p') sv (m + 1) w' ∧ Below N w w' := by
  obtain ⟨hpw, hND⟩ := h.pr i p hi
  obtain ⟨eX, eD, eR⟩ := hf.same
  have hb : Below N w w' := hf.below.mono (Nat.le_of_lt hND)
  have hN : w'.heap[N]? = w.heap[N]? := hf.below.block N hND
  have key : ∀ (j : Nat) (q : Pr), (ps.set i p')[j]? = some q → (j = i ∧ q = p') ∨ (j ≠ i ∧ ps[j]? = some q) := fun j q hq => by
    rw [List.getElem?_set] at hq
    split at hq
    · rename_i e
      split at hq
      · exact .inl ⟨e.symm, by simpa using hq.symm⟩
      · cases hq
    · rename_i e
      exact .inr ⟨fun x => e x.symm, hq⟩
  refine ⟨⟨Nat.lt_of_lt_of_le h.lt hb.size, fun j => (World.frozen?_of_block hN).trans (h.fz j), fun j hj => (World.cell?_of_block hN).trans (h.bk j hj), (World.cell?_of_block hN).trans h.st, (World.cell?_of_block hN).trans h.hd, ?_, fun j q hq => ?_, fun j l q r hq hr hjl g h1 h2 => ?_, fun j q hq g hgq e => ?_⟩, hb⟩
  · rw [List.length_set, stCs_set ps i p p' hi (by unfold stV; rw [eX, eR])]
    exact ownsRow_keep h.own (fun g e => hf.other g (row_lt h.own g e).2 (fun hh => h.row i p hi g hh e))
  · rcases key j q hq with ⟨_, rfl⟩ | ⟨hji, hq'⟩
    · exact ⟨hp, by rw [eD]; exact hND⟩
    · refine ⟨((h.pr j q hq').1.up hb.size (fun g hg => hf.other g ((h.pr j q hq').1.lt g hg) (fun hh => h.sep j i q p hq' hi hji g hg hh))).more (Nat.le_succ m), (h.pr j q hq').2⟩
  · rcases key j q hq with ⟨e1, rfl⟩ | ⟨hji, hq'⟩ <;> rcases key l r hr with ⟨e2, rfl⟩ | ⟨hli, hr'⟩
    · omega
    · rcases hf.own g h1 with k | k
      · exact h.sep l i r p hr' hi hli g h2 k
      · have := (h.pr l r hr').1.lt g h2; omega
    · rcases hf.own g h2 with k | k
      · exact h.sep j i q p hq' hi hji g h1 k
      · have := (h.pr j q hq').1.lt g h1; omega
    · exact h.sep j l q r hq' hr' hjl g h1 h2
  · rcases key j q hq with ⟨_, rfl⟩ | ⟨_, hq'⟩
    · rcases hf.own g hgq with k | k
      · exact h.row i p hi g k e
      · have := (row_lt h.own g e).2; omega
    · exact h.row j q hq' g hgq e
end Go.Proofs.YtmmflekajbeamaaGreatDoor

namespace Go.Proofs.YtmmflekajbeamaaGreatDoor
open Go.RowKit

set_option maxRecDepth 100000 in
set_option maxHeartbeats 1000000 in
theorem lpick_any (c n : Int) (w : World) (h0 : -9223372036854775808 ≤ c) (h1 : c ≤ 9223372036854775807) (hn : 0 < n) (hn1 : n ≤ 1000000000001) :
    Calls Tryz.prog 35 #[.int .i64 c, .int .i64 n] w fun e' w' => e' = .returned (.int .i64 (pickI c n)) ∧ w' = w := by
  have hb := pickI_bd c n hn
  have hn0 : ¬ n = 0 := by omega
  by_cases hc : c < 0
  · have ht : (-(c + 1)).tmod n = pickI c n := by
      unfold pickI
      rw [if_pos hc, Int.tmod_eq_emod_of_nonneg (by omega)]
    generalize pickI c n = r at *
    go_enter Tryz.func35, Tryz.ntmps35
    go_wp2
    go_ret
    exact ⟨by go_num, rfl⟩
  · have ht : c.tmod n = pickI c n := by
      unfold pickI
      rw [if_neg hc, Int.tmod_eq_emod_of_nonneg (by omega)]
    generalize pickI c n = r at *
    go_enter Tryz.func35, Tryz.ntmps35
    go_wp2
    go_ret
    exact ⟨by go_num, rfl⟩
theorem pickI_nat (c : Int) (L : Nat) (h : 0 < L) : ∃ m : Nat, pickI c (L : Int) = (m : Int) ∧ m < L := by
  have hb := pickI_bd c (L : Int) (by omega)
  obtain ⟨m, hm⟩ := Int.eq_ofNat_of_zero_le hb.1
  exact ⟨m, hm, by omega⟩
theorem sizeOp : (Tryz.prog.info? 51).map (·.size) = some 144 := by kernel_rfl
theorem opC_len (k on a b : Int) (s t : ByteArray) (z : List Int) (hz : z.length = 138) : (opC k on a b s t z).toList.length = 144 := by
  unfold opC S
  simp [hz]
theorem st_cells {w : World} {B : Nat} {ps : List Pr} {g c : Nat} (h : w.ownsRow B 83 2 (.slice (some ⟨g, 0, none⟩) ps.length c) ps.length (stCs ps)) (i : Nat) (p : Pr) (hi : ps[i]? = some p) : w.cell? ⟨g, i * 2, none⟩ = some (.pointer (some ⟨p.X, 0, none⟩)) ∧ w.cell? ⟨g, i * 2 + 1, none⟩ = some (.pointer (some ⟨p.R, 0, none⟩)) := by
  have hlt : i < ps.length := (List.getElem?_eq_some_iff.1 hi).1
  have key := flat_atG (fun p : Pr => (stV p).toList) 2 (fun _ => rfl) ps i p hi
  refine ⟨?_, ?_⟩
  · rw [h.cellAt (i * 2) (by omega)]
    exact key 0 (by decide)
  · rw [h.cellAt (i * 2 + 1) (by omega)]
    exact key 1 (by decide)
def StPost (N : Nat) (ps : List Pr) (k : Int) (m : Nat) (w : World) (e' : Ending) (w' : World) : Prop := e' = .returned (.bool true) ∧ ∃ ps' sv', WAt N ps' sv' (m + 1) w' ∧ Below N w w' ∧ ps'.length = if k = 20 then ps.length + 1 else ps.length
theorem WAt.more {N : Nat} {ps : List Pr} {sv : Value} {m n : Nat} {w : World} (h : WAt N ps sv m w) (hn : m ≤ n) : WAt N ps sv n w := ⟨h.lt, h.fz, h.bk, h.st, h.hd, h.own, fun i p hp => ⟨(h.pr i p hp).1.more hn, (h.pr i p hp).2⟩, h.sep, h.row⟩
/-- The box of a step. -/
structure Ox (N : Nat) (ps : List Pr) (sv : Value) (k on a b : Int) (s t : ByteArray) (z : List Int) (m : Nat) (w W : World) : Prop where
  wa : WAt N ps sv m W
  bel : Below w.heap.size w W
  c0 : W.cell? ⟨w.heap.size, 0, none⟩ = some (.int .i64 k)
  c1 : W.cell? ⟨w.heap.size, 1, none⟩ = some (.int .i64 on)
  all : W.rangeAt w.heap.size 0 (opC k on a b s t z).toList
theorem ox_new {N : Nat} {ps : List Pr} {sv : Value} {m : Nat} {w : World} (h : WAt N ps sv m w) (k on a b : Int) (s t : ByteArray) (z : List Int) (W : World) (e : W = w.alloc (.cells (opC k on a b s t z) 51)) : Ox N ps sv k on a b s t z m w W := by
  have r : W.heap[w.heap.size]? = some (.cells (opC k on a b s t z) 51 (0, 0)) := by rw [e, _root_.Go.heap_alloc_new]
  have hb : Below w.heap.size w W := by rw [e]; exact (Below.refl _ _).alloc (Nat.le_refl _) _
  obtain ⟨o0, o1, _, _⟩ := opC_at k on a b s t z
  refine ⟨h.up hb, hb, (cell_row r 0).trans o0, (cell_row r 1).trans o1, fun j v hv => ?_⟩
  rw [Nat.zero_add, cell_row r j, ← Array.getElem?_toList]
  exact hv

set_option maxRecDepth 100000 in
set_option maxHeartbeats 4000000 in
theorem step_new (N : Nat) (ps : List Pr) (sv : Value) (m : Nat) (on a b : Int) (s t : ByteArray) (z : List Int) (w : World) (h : WAt N ps sv m w) (hl : ps.length ≤ 1000000000000) :
    Calls Tryz.prog 13 #[.pointer (some ⟨N, 0, none⟩), .agg (opC 20 on a b s t z)] w (StPost N ps 20 m w) := by
  obtain ⟨W, hW⟩ : ∃ W, W = w.alloc (.cells (opC 20 on a b s t z) 51) := ⟨_, rfl⟩
  have HW := hide hW
  have hO := ox_new h 20 on a b s t z W hW
  have c0 := hO.c0
  have HC := hide (device_any N ps sv m W hO.wa hl)
  have HB := hide hO.bel
  have hN := h.lt
  clear h hl hO hW
  generalize hop : opC 20 on a b s t z = OC at *
  clear hop
  go_enter Tryz.func13, Tryz.ntmps13
  go_upto_region 1 with fail
  rw [← HW.out]
  go_wp2_with fail
  refine (unhide HC).mono ?_
  rintro e w1 ⟨rfl, p, sv', h1, hb1⟩
  have H1 := hide h1; have HB1 := hide hb1
  clear h1 hb1 HC
  go_wp2_with fail
  go_ret
  exact ⟨rfl, _, _, H1.out.more (Nat.le_succ m), (HB.out.mono (Nat.le_of_lt hN)).trans HB1.out, by rw [if_pos rfl, List.length_append]; rfl⟩
set_option maxRecDepth 100000 in
set_option maxHeartbeats 4000000 in
theorem step_nil (N : Nat) (sv : Value) (m : Nat) (k on a b : Int) (s t : ByteArray) (z : List Int) (w : World) (h : WAt N [] sv m w) (hk : 21 ≤ k ∧ k ≤ 26) :
    Calls Tryz.prog 13 #[.pointer (some ⟨N, 0, none⟩), .agg (opC k on a b s t z)] w (StPost N [] k m w) := by
  obtain ⟨W, hW⟩ : ∃ W, W = w.alloc (.cells (opC k on a b s t z) 51) := ⟨_, rfl⟩
  have HW := hide hW
  have hO := ox_new h k on a b s t z W hW
  have c0 := hO.c0
  have c3 := hO.wa.st
  obtain ⟨sa, sc, hsv⟩ := owns_len hO.wa.own
  rw [hsv] at c3
  have HB := hide hO.bel; have HWa := hide hO.wa
  have hN := h.lt
  have k1 : ¬ k < 20 := by omega
  have k2 : (k == 20) = false := by rw [beq_eq_false_iff_ne]; omega
  have k3 : k < 30 := by omega
  have k4 : (k == 30) = false := by rw [beq_eq_false_iff_ne]; omega
  have k5 : ¬ 30 < k := by omega
  have k6 : ¬ k = 20 := by omega
  have HK := hide k6
  clear h hO hW hk hsv k6
  generalize hop : opC k on a b s t z = OC at *
  clear hop
  go_enter Tryz.func13, Tryz.ntmps13
  go_upto_region 1 with fail
  rw [← HW.out]
  go_wp2_with fail
  go_ret
  exact ⟨rfl, _, _, HWa.out.more (Nat.le_succ m), HB.out.mono (Nat.le_of_lt hN), by rw [if_neg HK.out]⟩
end Go.Proofs.YtmmflekajbeamaaGreatDoor

namespace Go.Proofs.YtmmflekajbeamaaGreatDoor
open Go.RowKit

set_option maxRecDepth 100000 in
set_option maxHeartbeats 8000000 in
theorem step_dev (N : Nat) (ps : List Pr) (sv : Value) (m : Nat) (k on a b : Int) (s t : ByteArray) (z : List Int) (w : World) (h : WAt N ps sv m w) (hp : 0 < ps.length) (hl : ps.length ≤ 1000000000000) (hk : 21 ≤ k ∧ k ≤ 26) (hz : z.length = 138) (hm : m ≤ 1152921504606846976) (hs : s.size ≤ 140737488351232)
    (ho : -9223372036854775808 ≤ on ∧ on ≤ 9223372036854775807) (ha : a ≤ 9223372036854775807) :
    Calls Tryz.prog 13 #[.pointer (some ⟨N, 0, none⟩), .agg (opC k on a b s t z)] w (StPost N ps k m w) := by
  obtain ⟨W, hW⟩ : ∃ W, W = w.alloc (.cells (opC k on a b s t z) 51) := ⟨_, rfl⟩
  have HW := hide hW
  have hO := ox_new h k on a b s t z W hW
  have c0 := hO.c0
  have c1 := hO.c1
  have c3 := hO.wa.st
  obtain ⟨g, c, hsv, _, hgl⟩ := hO.wa.own.form hp
  rw [hsv] at c3
  have hown := hO.wa.own
  rw [hsv] at hown
  obtain ⟨i, hi, hil⟩ := pickI_nat on ps.length hp
  obtain ⟨p, hpi⟩ : ∃ p, ps[i]? = some p := ⟨_, List.getElem?_eq_getElem hil⟩
  obtain ⟨d0, d1⟩ := st_cells hown i p hpi
  have HPk := hide (fun w' => lpick_any on (ps.length : Int) w' ho.1 ho.2 (by omega) (by omega))
  rw [hi] at HPk
  have HSt := hide (fun (w' : World) (hh : PrAt p m w') => stored_any p m k on a b s t z w' hh hm hs ha)
  have HX := hide hO; have HPi := hide hpi
  have HLen := hide (opC_len k on a b s t z hz)
  have hall := hO.all
  have HAl := hide hall
  have hN := h.lt
  have hp' : (0 : Int) < (ps.length : Int) := by omega
  have hi0 : ¬ (i : Int) < 0 := by omega
  have hi1 : (i : Int) < (ps.length : Int) := by omega
  have k1 : ¬ k < 20 := by omega
  have k2 : (k == 20) = false := by rw [beq_eq_false_iff_ne]; omega
  have k3 : k < 30 := by omega
  have k6 : ¬ k = 20 := by omega
  have HK := hide k6
  have HStv : Hid (stV p = #[.pointer (some ⟨p.X, 0, none⟩), .pointer (some ⟨p.R, 0, none⟩)]) := rfl
  have HPL := hide (rfl : ps.length = ps.length)
  rw [HStv.out] at HSt
  clear h hO hW hk hsv k6 hl ho ha hs hm hz hown hi hpi hall hp HStv HPL hil
  generalize hPX : p.X = PX at *
  generalize hPR : p.R = PR at *
  clear hPX hPR
  generalize hop : opC k on a b s t z = OC at *
  generalize hL : ps.length = L at *
  have HL := hide hL
  clear hop hL
  go_enter Tryz.func13, Tryz.ntmps13
  go_upto_region 1 with fail
  rw [← HW.out]
  go_upto_region 6 with fail
  refine held_pick2 6 [0, 1, 2, 3, 4, 5, 6, 7, 8, 9, 10, 14] [11, 12, 13, 15, 16] 15 (fun w' => w'.cell? ⟨N, 3, none⟩ = some (.slice (some ⟨g, 0, none⟩) L c) ∧ w'.cell? ⟨w.heap.size, 1, none⟩ = some (.int .i64 on) ∧ w'.cell? ⟨g, i * 2, none⟩ = some (.pointer (some ⟨PX, 0, none⟩)) ∧ w'.cell? ⟨g, i * 2 + 1, none⟩ = some (.pointer (some ⟨PR, 0, none⟩)) ∧ Hid (w'.rangeAt w.heap.size 0 OC.toList)) (by kernel_rfl) (by kernel_rfl) (fun d _ _ _ _ h => by cases d <;> exact h) ⟨c3, c1, d0, d1, HAl.out⟩ ?_
  iterate 11
    refine wpTakeI_step ?_ rfl rfl ?_ ?_
    rotate_left
    · rintro w' ⟨q0, q1, q2, q3, q4⟩
      go_simp
      rfl
    go_simp
  refine ⟨_, .agg OC, rfl, yieldsIf_load_mid rfl 51 _ rfl w.heap.size 0 rfl OC.toList _ (fun w' hS => hS.2.2.2.2.out) Tryz.underlying51 rfl (by rw [sizeOp, HLen.out]), ?_⟩
  go_simp
  refine wpTakeI_nil ?_
  refine wpTailI_step rfl rfl (fun K hK => ?_)
  go_simp
  refine (unhide HPk _).mono ?_
  rintro e w' ⟨rfl, hw⟩
  obtain rfl := hw.symm
  refine hK _ _ (fun _ => ⟨c3, c1, d0, d1, HAl.out⟩) ?_
  clear hK K
  iterate 2
    refine wpTailI_step rfl rfl (fun K hK => ?_)
    go_simp
    refine hK _ _ (fun _ => ⟨c3, c1, d0, d1, HAl.out⟩) ?_
    clear hK K
  refine wpTailI_step rfl rfl (fun K hK => ?_)
  go_simp
  have HPw : Hid (PrAt p m W.drew) := (HX.out.wa.pr i p HPi.out).1.up (Nat.le_refl _) (fun _ _ => rfl)
  refine (unhide HSt _ HPw.out).mono ?_
  rintro e w1 ⟨rfl, p', hp', hf'⟩
  have HE := hide ((HX.out.wa.up (Below.refl _ W).drew).set HPi.out hp' hf')
  clear hp' hf' HSt HPk
  refine hK _ _ (fun h => absurd h (by decide)) ?_
  clear hK K
  refine wpTailI_step rfl rfl (fun K hK => ?_)
  go_simp
  refine hK _ _ (fun h => absurd h (by decide)) ?_
  clear hK K
  refine wpTailI_nil ?_
  go_wp2_with fail
  go_ret
  exact ⟨rfl, _, _, HE.out.1, (HX.out.bel.mono (Nat.le_of_lt hN)).trans (((Below.refl _ W).drew).trans HE.out.2), by rw [if_neg HK.out, List.length_set]⟩
/-- Every step of the kinds of devices. -/
theorem step_any (N : Nat) (ps : List Pr) (sv : Value) (m : Nat) (k on a b : Int) (s t : ByteArray) (z : List Int) (w : World) (h : WAt N ps sv m w) (hl : ps.length ≤ 1000000000000) (hk : 20 ≤ k ∧ k ≤ 26) (hz : z.length = 138) (hm : m ≤ 1152921504606846976) (hs : s.size ≤ 140737488351232)
    (ho : -9223372036854775808 ≤ on ∧ on ≤ 9223372036854775807) (ha : a ≤ 9223372036854775807) :
    Calls Tryz.prog 13 #[.pointer (some ⟨N, 0, none⟩), .agg (opC k on a b s t z)] w (StPost N ps k m w) := by
  by_cases h20 : k = 20
  · subst h20
    exact step_new N ps sv m on a b s t z w h hl
  · by_cases hp : 0 < ps.length
    · exact step_dev N ps sv m k on a b s t z w h hp hl (by omega) hz hm hs ho ha
    · obtain rfl : ps = [] := List.length_eq_zero_iff.1 (by omega)
      exact step_nil N sv m k on a b s t z w h (by omega)
end Go.Proofs.YtmmflekajbeamaaGreatDoor

namespace Go.Proofs.YtmmflekajbeamaaGreatDoor
open Go.RowKit

set_option maxRecDepth 100000 in
set_option maxHeartbeats 2000000 in
theorem looks_nil (N : Nat) (w : World) (h : ∀ j, j < 3 → w.cell? ⟨N, j, none⟩ = some (.slice none 0 0)) :
    Calls Tryz.prog 14 #[.pointer (some ⟨N, 0, none⟩)] w fun e' w' => e' = .returned (.bool true) ∧ w' = w := by
  have HI := hide (lookInts_nil N w (h 0 (by decide)))
  have HP := hide (lookPuts_nil N w (h 1 (by decide)))
  have HL := hide (lookPlans_nil N w (h 2 (by decide)))
  clear h
  go_enter Tryz.func14, Tryz.ntmps14
  go_wp2_with fail
  refine (unhide HI).mono ?_
  rintro e w' ⟨rfl, hw⟩
  obtain rfl := hw.symm
  go_wp2_with fail
  refine (unhide HP).mono ?_
  rintro e w' ⟨rfl, hw⟩
  obtain rfl := hw.symm
  go_wp2_with fail
  refine (unhide HL).mono ?_
  rintro e w' ⟨rfl, hw⟩
  obtain rfl := hw.symm
  go_wp2_with fail
  go_ret
  exact ⟨rfl, rfl⟩
abbrev worldC : Array Value := #[.slice none 0 0, .slice none 0 0, .slice none 0 0, .slice none 0 0, .slice none 0 0]
theorem wat_new (N : Nat) (w : World) (r : w.heap[N]? = some (.cells worldC 49 (0, 0))) : WAt N [] (.slice none 0 0) 0 w := by
  refine ⟨(Array.getElem?_eq_some_iff.1 r).1, fun j => by unfold World.frozen?; rw [r]; simp, fun j hj => ?_, cell_row r 3, cell_row r 4, World.ownsRow_nil _ _ _ _, (fun i p hp => by cases hp), (fun i j p q hp => by cases hp), (fun i p hp => by cases hp)⟩
  have : j = 0 ∨ j = 1 ∨ j = 2 := by omega
  rcases this with rfl | rfl | rfl
  · exact cell_row r 0
  · exact cell_row r 1
  · exact cell_row r 2
def noFr : ByteArray := ⟨#[110, 111, 32, 102, 114, 97, 109, 101]⟩
theorem built20 : Tryz.prog.built 51 [(0, .int .i64 20)] = some (opC 20 0 0 0 ⟨#[]⟩ ⟨#[]⟩ zeroZ) := by kernel_rfl
theorem built21 : Tryz.prog.built 51 [(0, .int .i64 21), (4, .string noFr)] = some (opC 21 0 0 0 noFr ⟨#[]⟩ zeroZ) := by kernel_rfl
theorem built24 : Tryz.prog.built 51 [(0, .int .i64 24)] = some (opC 24 0 0 0 ⟨#[]⟩ ⟨#[]⟩ zeroZ) := by kernel_rfl

set_option maxRecDepth 100000 in
set_option maxHeartbeats 8000000 in
theorem begins_any (w : World) : Calls Tryz.prog 12 #[.int .i64 20, .int .i64 26] w fun e' w' => e' = .returned (.bool true) ∧ Below w.heap.size w w' := by
  have zz := zero34
  obtain ⟨W, hW⟩ : ∃ W, W = ((w.alloc (.cells worldC 49)).alloc (.cells (S zeroZ) 28)).setCell ⟨w.heap.size + 1, 8, none⟩ (.int .i64 17825799) := ⟨_, rfl⟩
  have HW := hide hW
  have hA : WAt w.heap.size [] (.slice none 0 0) 0 W := by
    refine wat_new _ _ ?_
    rw [hW, set_other (by omega), Below.heap_alloc _ _ _ (by rw [size_alloc1]; omega), _root_.Go.heap_alloc_new]
  have hBW : Below w.heap.size w W := by
    rw [hW]
    exact (((Below.refl _ _).alloc (Nat.le_refl _) _).alloc (by rw [size_alloc1]; omega) _).setCell (p := ⟨w.heap.size + 1, 8, none⟩) (by show w.heap.size ≤ w.heap.size + 1; omega) _
  have HA := hide hA; have HB := hide hBW
  have HS := hide (fun ps sv m k s (w' : World) (h : WAt w.heap.size ps sv m w') (hl : ps.length ≤ 1000000000000) (hk : 20 ≤ k ∧ k ≤ 26) (hm : m ≤ 1152921504606846976) (hs : s.size ≤ 140737488351232) => step_any w.heap.size ps sv m k 0 0 0 s ⟨#[]⟩ zeroZ w' h hl hk rfl hm hs (by decide) (by decide))
  obtain ⟨V, hV⟩ : ∃ V, V = (w.alloc (.cells worldC 49)).alloc (.cells (S zeroZ) 28) := ⟨_, rfl⟩
  have rV : V.heap[w.heap.size + 1]? = some (.cells (S zeroZ) 28 (0, 0)) := by rw [hV, ← size_alloc1 w (.cells worldC 49), _root_.Go.heap_alloc_new]
  have cs : V.cell? ⟨w.heap.size + 1, 8, none⟩ = some (.int .i64 0) := cell_row rV 8
  have cf : V.frozen? ⟨w.heap.size + 1, 8, none⟩ = false := by unfold World.frozen?; rw [rV]; simp
  have HV := hide hV
  rw [← hV] at hW
  have HWV := hide hW
  have b20 := hide built20; have b21 := hide built21; have b24 := hide built24
  clear hA hBW hW hV rV
  go_enter Tryz.func12, Tryz.ntmps12
  go_upto_region 3 with fail
  rw [← HV.out]
  go_upto_region 6 with fail
  rw [← HWV.out]
  clear cs cf
  go_wp2_with (refine wpList_buildTo rfl 51 _ rfl _ rfl (opC 20 0 0 0 ⟨#[]⟩ ⟨#[]⟩ zeroZ) b20.out ?_)
  refine (unhide HS [] (.slice none 0 0) 0 20 ⟨#[]⟩ W HA.out (by decide) (by decide) (by decide) (by decide)).mono ?_
  rintro e w1 ⟨rfl, ps1, sv1, h1, hb1, hl1⟩
  rw [if_pos rfl] at hl1
  have hl1' : ps1.length = 1 := hl1
  have HA1 := hide h1; have HB1 : Hid (Below w.heap.size w w1) := HB.out.trans hb1
  have HL1 := hide hl1'
  clear h1 hb1 hl1 hl1'
  go_wp2_with (refine wpList_buildTo rfl 51 _ rfl _ rfl (opC 21 0 0 0 noFr ⟨#[]⟩ zeroZ) b21.out ?_)
  refine (unhide HS ps1 sv1 1 21 noFr w1 HA1.out (by rw [HL1.out]; decide) (by decide) (by decide) (by decide)).mono ?_
  rintro e w2 ⟨rfl, ps2, sv2, h2, hb2, hl2⟩
  rw [if_neg (by decide), HL1.out] at hl2
  have HA2 := hide h2; have HB2 : Hid (Below w.heap.size w w2) := HB1.out.trans hb2
  have HL2 := hide hl2
  clear h2 hb2 hl2
  go_wp2_with (refine wpList_buildTo rfl 51 _ rfl _ rfl (opC 24 0 0 0 ⟨#[]⟩ ⟨#[]⟩ zeroZ) b24.out ?_)
  refine (unhide HS ps2 sv2 2 24 ⟨#[]⟩ w2 HA2.out (by rw [HL2.out]; decide) (by decide) (by decide) (by decide)).mono ?_
  rintro e w3 ⟨rfl, ps3, sv3, h3, hb3, hl3⟩
  rw [if_neg (by decide), HL2.out] at hl3
  have c3 := h3.st
  obtain ⟨sa, sc, hsv⟩ := owns_len h3.own
  rw [hsv, hl3] at c3
  have HB3 : Hid (Below w.heap.size w w3) := HB2.out.trans hb3
  clear h3 hb3 hl3 hsv
  go_wp2_with fail
  go_ret
  exact ⟨rfl, HB3.out⟩
end Go.Proofs.YtmmflekajbeamaaGreatDoor
