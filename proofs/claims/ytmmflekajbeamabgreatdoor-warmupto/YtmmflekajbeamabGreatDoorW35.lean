/-
  The calls Sum, Seal, Scan of the package; the law's seals and scans.
  Faithful: one step of the bench (step), kind by kind.
  Faithful: one step of the bench, of the kinds that call the device.
  Faithful: one step of the bench: a frame is added; every step.
  Calls of a hand, the program's and then the document's: Persist, Compact, Run, State, Counts.
  The law's worked: calls of a hand.
  The law's worked: State, Counts.
  A start over a device that no trouble waits for, with short areas, answers OK.
  Faithful: a new bench (bench).
  Faithful, Kept, Warm: a small program runs, its plan is laid down and served (first).
  Warm: what runs leave of an engine; the books; a device that is calm and all synced: plain mathematics.
-/
import Derived.Test.YtmmflekajbeamabGreatDoorW32
import Derived.Test.YtmmflekajbeamabGreatDoorW09
import Derived.Test.YtmmflekajbeamabGreatDoorW17
import Derived.Test.YtmmflekajbeamabGreatDoorW34
import Derived.Test.YtmmflekajbeamabGreatDoorW03
import Derived.Test.YtmmflekajbeamabGreatDoorW16
import Derived.Test.YtmmflekajbeamabGreatDoorW24
import Derived.Test.YtmmflekajbeamabGreatDoorW33
namespace Go.Proofs.YtmmflekajbeamabGreatDoor
open Go.RowKit

end Go.Proofs.YtmmflekajbeamabGreatDoor

namespace Go.Proofs.YtmmflekajbeamabGreatDoor
open Go.RowKit Go.Maps Go.WideMaps

end Go.Proofs.YtmmflekajbeamabGreatDoor

namespace Go.Proofs.YtmmflekajbeamabGreatDoor
open Go.RowKit Go.Maps Go.WideMaps

end Go.Proofs.YtmmflekajbeamabGreatDoor

namespace Go.Proofs.YtmmflekajbeamabGreatDoor
open Go.RowKit Go.Maps Go.WideMaps

end Go.Proofs.YtmmflekajbeamabGreatDoor

namespace Go.Proofs.YtmmflekajbeamabGreatDoor
open Go.RowKit Go.Maps Go.WideMaps

end Go.Proofs.YtmmflekajbeamabGreatDoor

namespace Go.Proofs.YtmmflekajbeamabGreatDoor
open Go.RowKit Go.Maps Go.WideMaps

end Go.Proofs.YtmmflekajbeamabGreatDoor

namespace Go.Proofs.YtmmflekajbeamabGreatDoor
open Go.RowKit Go.Maps Go.WideMaps

end Go.Proofs.YtmmflekajbeamabGreatDoor

namespace Go.Proofs.YtmmflekajbeamabGreatDoor

theorem scan_short {l : List UInt8} (h : l.length ≤ 11) : scan l = ar0 := by
  unfold scan
  rw [scn]
  cases hf : frst l with
  | none => rfl
  | some kp =>
    obtain ⟨k, p⟩ := kp
    simp only
    obtain ⟨_, _, _, hl, _⟩ := frst_some hf
    have : arT ar0 k p = none := by
      unfold arT
      rw [if_pos (show ar0.gen = 0 from rfl), if_neg (fun c => by have := c.2.1; omega)]
    rw [this]
theorem calm_sync {d : DvN} (h : d.tr = 0) {i : Int} (hi : ¬ (i < 0 ∨ 2 ≤ i)) : (dSync d i).1 = 0 ∧ (dSync d i).2.tr = 0 ∧ (dSync d i).2.b = d.b := by
  unfold dSync
  rw [if_neg hi, if_neg (by omega)]
  exact ⟨rfl, by show d.tr - 1 = 0; omega, rfl⟩
theorem calm_read {d : DvN} (h : d.tr = 0) {i : Int} (hi : ¬ (i < 0 ∨ 2 ≤ i)) : (dRead d i).2.1 = 0 ∧ (dRead d i).2.2.tr = 0 ∧ (dRead d i).2.2.b = d.b ∧ (dRead d i).1 = d.b i.toNat := by
  unfold dRead
  rw [if_neg hi, if_neg (by omega)]
  exact ⟨rfl, by show d.tr - 1 = 0; omega, rfl, rfl⟩
theorem calm_clear {d : DvN} (h : d.tr = 0) {i : Int} (hi : ¬ (i < 0 ∨ 2 ≤ i)) : (dClear d i).1 = 0 ∧ (dClear d i).2.tr = 0 ∧ (dClear d i).2.b i.toNat = [] := by
  unfold dClear
  rw [if_neg hi, if_neg (by omega)]
  exact ⟨rfl, by show d.tr - 1 = 0; omega, upd_at _ _ _⟩
theorem calm_add {d : DvN} (h : d.tr = 0) {i : Int} (hi : ¬ (i < 0 ∨ 2 ≤ i)) (s : List UInt8) (hs : (d.b i.toNat).length + s.length ≤ 1500) : (dAdd d i s).1 = 0 ∧ (dAdd d i s).2.tr = 0 := by
  unfold dAdd
  rw [if_neg hi, if_neg (by omega), if_neg (by omega)]
  exact ⟨rfl, by show d.tr - 1 = 0; omega⟩
theorem open_calm {z : List Int} (k : Int) {d : DvN} (h : d.tr = 0) (h0 : (d.b 0).length ≤ 11) (h1 : (d.b 1).length ≤ 11) : (openE dOps (newG k z) d).1 = 0 := by
  have n0 : ¬ ((0 : Int) < 0 ∨ (2 : Int) ≤ 0) := by omega
  have n1 : ¬ ((1 : Int) < 0 ∨ (2 : Int) ≤ 1) := by omega
  obtain ⟨a1, a2, a3⟩ := calm_sync h n0
  obtain ⟨b1, b2, b3⟩ := calm_sync a2 n1
  obtain ⟨c1, c2, c3, c4⟩ := calm_read b2 n0
  obtain ⟨e1, e2, e3, e4⟩ := calm_read c2 n1
  have s0 : scan (dRead (dSync (dSync d 0).2 1).2 0).1 = ar0 := scan_short (by rw [c4, b3, a3]; exact h0)
  have s1 : scan (dRead (dRead (dSync (dSync d 0).2 1).2 0).2.2 1).1 = ar0 := scan_short (by rw [e4, c3, b3, a3]; exact h1)
  unfold openE
  rw [readE_d, if_pos a1, if_pos b1, if_pos c1, if_pos e1]
  simp only [if_true]
  unfold findE
  rw [s0, s1, if_pos (show (cur2 ar0 ar0).2 = 0 by decide)]
  generalize (dRead (dRead (dSync (dSync d 0).2 1).2 0).2.2 1).2.2 = D at *
  obtain ⟨f1, f2, f3⟩ := calm_clear (d := D) e2 n0
  have hfr : (frE { newG k z with ar := 1 }).length ≤ 1500 := by
    have q := anewT_len 1 []
    show (anewT 1 []).length ≤ 1500
    simp at q
    omega
  obtain ⟨g1, g2⟩ := calm_add f2 n0 (frE { newG k z with ar := 1 }) (by rw [f3]; simpa using hfr)
  obtain ⟨i1, _, _⟩ := calm_sync g2 n0
  have hlay : (layE dOps { newG k z with ar := 1 } (dClear D 0).2 0 (frE { newG k z with ar := 1 })).1 = 0 := by
    rw [layE_d, if_pos g1, if_pos i1]
  unfold anewE
  rw [if_neg (by show ¬ 4294967295 < 0 + 1; omega), if_neg (Nat.not_lt.2 hfr)]
  have e0 : (dOps.clear D ((0 : Nat) : Int)) = dClear D 0 := rfl
  rw [e0, if_pos f1]
  have e9 : ((0 : Nat) : Int) = 0 := rfl
  rw [e9, if_pos hlay]
end Go.Proofs.YtmmflekajbeamabGreatDoor

namespace Go.Proofs.YtmmflekajbeamabGreatDoor
open Go.RowKit Go.Maps Go.WideMaps

/-- The bench's cells, all zero. -/
def bnC0 : Array Value := (#[.pointer none, .pointer none] ++ S zeroZ) ++ #[.slice none 0 0]
def bnPl : Array (Nat × Nat) := #[(0, 1), (1, 1), (2, 138), (140, 1)]
set_option maxRecDepth 100000 in
theorem placesB : (match Tryz.prog.underlying 39 with | some (.struct fs) => fs.toList.mapM (fun f => (Tryz.prog.info? f.type).map fun i => (f.offset, i.size)) | _ => none) = some bnPl.toList := by kernel_rfl
set_option maxRecDepth 100000 in
theorem infoBn : ∃ i, Tryz.prog.info? 39 = some i ∧ i.zero = some (.agg bnC0) := by
  have h : (Tryz.prog.info? 39).map (fun i => i.zero) = some (some (.agg bnC0)) := by kernel_rfl
  cases hq : Tryz.prog.info? 39 with
  | none => rw [hq] at h; cases h
  | some i =>
    rw [hq] at h
    simp only [Option.map_some, Option.some.injEq] at h
    exact ⟨i, rfl, h⟩
set_option maxRecDepth 100000 in
theorem builtBn (parts : List (Nat × Value)) : Tryz.prog.built 39 parts = Instr.fill (fun x => bnPl[x]?) bnC0 parts := by
  obtain ⟨i, hi, hz⟩ := infoBn
  have hp := placesB
  unfold Program.built
  rw [hi]
  rw [Tryz.underlying39] at hp ⊢
  simp only [hz] at hp ⊢
  rw [hp]
  rfl
theorem bnC0_size : bnC0.size = 141 := by unfold bnC0; simp [S_size, zeroZ]
def bnC (X Y : Nat) (z : List Int) : Array Value := layA 2 (S z) (layA 1 #[.pointer (some ⟨Y, 0, none⟩)] (layA 0 #[.pointer (some ⟨X, 0, none⟩)] bnC0))
theorem bnC_get (X Y : Nat) (z : List Int) (hz : z.length = 138) (j : Nat) : (bnC X Y z).size = 141 ∧ (bnC X Y z)[j]? = if 2 ≤ j ∧ j < 140 then (S z)[j - 2]? else if j = 1 then some (.pointer (some ⟨Y, 0, none⟩)) else if j = 0 then some (.pointer (some ⟨X, 0, none⟩)) else bnC0[j]? := by
  have s0 := bnC0_size
  have e1 : (layA 0 #[.pointer (some ⟨X, 0, none⟩)] bnC0).size = 141 := by rw [layA_size _ _ _ (by rw [s0]; simp), s0]
  have e2 : (layA 1 #[.pointer (some ⟨Y, 0, none⟩)] (layA 0 #[.pointer (some ⟨X, 0, none⟩)] bnC0)).size = 141 := by rw [layA_size _ _ _ (by rw [e1]; simp), e1]
  have zs : (S z).size = 138 := by rw [S_size, hz]
  unfold bnC
  refine ⟨by rw [layA_size _ _ _ (by rw [e2, zs]; decide), e2], ?_⟩
  rw [layA_get _ _ _ (by rw [e2, zs]; decide), zs]
  by_cases h1 : 2 ≤ j ∧ j < 140
  · rw [if_pos (by omega), if_pos h1]
  · rw [if_neg (by omega), if_neg h1, layA_get _ _ _ (by rw [e1]; simp)]
    by_cases h2 : j = 1
    · subst h2; rfl
    · rw [if_neg (by simp; omega), if_neg h2, layA_get _ _ _ (by rw [s0]; simp)]
      by_cases h3 : j = 0
      · subst h3; rfl
      · rw [if_neg (by simp; omega), if_neg h3]
theorem bnC0_last : bnC0[140]? = some (.slice none 0 0) := by
  unfold bnC0
  have hs : (#[Value.pointer none, .pointer none] ++ S zeroZ).size = 140 := by simp [S_size, zeroZ]
  rw [Array.getElem?_append_right (by rw [hs]; decide), hs]
  rfl
theorem build_bn (X Y : Nat) (z : List Int) (hz : z.length = 138) (w : World) : (Instr.build 39 #[(0, .pointer (some ⟨X, 0, none⟩)), (1, .pointer (some ⟨Y, 0, none⟩)), (2, .agg (S z))]).run Tryz.prog w = .ok (.agg (bnC X Y z)) w := by
  refine run_build w 39 _ _ ?_
  have s0 := bnC0_size
  have e1 : (layA 0 #[.pointer (some ⟨X, 0, none⟩)] bnC0).size = 141 := by rw [layA_size _ _ _ (by rw [s0]; simp), s0]
  have e2 : (layA 1 #[.pointer (some ⟨Y, 0, none⟩)] (layA 0 #[.pointer (some ⟨X, 0, none⟩)] bnC0)).size = 141 := by rw [layA_size _ _ _ (by rw [e1]; simp), e1]
  have zs : (S z).size = 138 := by rw [S_size, hz]
  rw [builtBn]
  show Instr.fill _ _ [(0, _), (1, _), (2, _)] = _
  rw [fill_one _ _ 0 _ _ 0 1 rfl rfl (by rw [s0]; decide), fill_one _ _ 1 _ _ 1 1 rfl rfl (by rw [show (Value.pointer (some ⟨X, 0, none⟩)).cells = #[.pointer (some ⟨X, 0, none⟩)] from rfl, e1]; decide)]
  rw [fill_one _ _ 2 (.agg (S z)) _ 2 138 rfl zs (by rw [show (Value.pointer (some ⟨X, 0, none⟩)).cells = #[.pointer (some ⟨X, 0, none⟩)] from rfl, show (Value.pointer (some ⟨Y, 0, none⟩)).cells = #[.pointer (some ⟨Y, 0, none⟩)] from rfl, e2]; decide)]
  rfl
theorem wpList_build3 {ops : Array Oper} {rest : List Oper} {o : Oper} {a : Act} {w : World} {Q : Exit → Act → World → Prop} (hg : o.guard = none) (ty : TypeId) (i j k : Nat) (x y z : Operand) (ho : o.op = .build ty #[(i, x), (j, y), (k, z)])
    (u v t r : Value) (hx : a.eval x = u) (hy : a.eval y = v) (hz : a.eval z = t) (hr : (Instr.build ty #[(i, u), (j, v), (k, t)]).run Tryz.prog w = .ok r w)
    (h : wpList Tryz.prog ops Q rest (a.put o.dst r) w) : wpList Tryz.prog ops Q (o :: rest) a w :=
  wpList_plain hg fun _ hK => wp_build3 ty i j k x y z ho u v t r hx hy hz hr (hK _ _ h)
/-- What a start over a new device comes to. -/
def op0 (z : List Int) : Int × EgN × DvN := openE dOps (newG 1 z) (engD dv0)
structure O0 (z : List Int) (R : Int × EgN × DvN) : Prop where
  ok : R.1 = 0
  dv : DvOK R.2.2
  wk : R.2.2.wk = 1
  z : R.2.1.z = z
  gk : GOK R.2.1 1500
theorem wrap_one : wrap64 (0 + 1) = 1 := by unfold wrap64; omega
theorem op0_ok {z : List Int} (hz : RunOK z) : O0 z (op0 z) := by
  unfold op0
  exact ⟨open_calm 1 (d := engD dv0) rfl (Nat.zero_le _) (Nat.zero_le _), open_clo clo_ok _ _ (fun _ _ => Nat.le_refl _), open_clo (clo_wk 1) _ _ wrap_one, openE_z _ _ _, GOK.open hz 1 (engD dv0) (fun _ _ => Nat.zero_le _)⟩
/-- What bench leaves. -/
def BcFin (z : List Int) (R : Int × EgN × DvN) (w : World) (B : Nat) (w' : World) : Prop := ∃ b e, BnAt w.heap.size B b (some e) 1 1500 w' ∧ Below w.heap.size w w' ∧ b.z = z ∧ b.d = R.2.2 ∧ e.g = R.2.1 ∧ b.mv = .slice none 0 0
theorem bc_end {z : List Int} {R : Int × EgN × DvN} (hR : O0 z R) {w W0 w1 w2 W3 : World} (hz : RunOK z) (hW0 : Below w.heap.size w W0) (hb1 : Below W0.heap.size W0 w1) (hs1 : w1.heap.size = W0.heap.size + 2) (hx1 : XAt (W0.heap.size + 1) W0.heap.size w1) {vs' : Nat → Value} (hd : DvAt W0.heap.size R.2.2 vs' w2) (hc : Chg (dHas W0.heap.size nilV) w1 w2) (vo : ∀ x, dHas W0.heap.size vs' x → dHas W0.heap.size nilV x ∨ w1.heap.size ≤ x) {X E : Nat} {m1 v1 : Nat → Value} (hX : w1.heap.size ≤ X) (hxa : XAt X E w2) (hea : EdAt E W0.heap.size R.2.1 R.2.2 m1 v1 vs' w2) (hef : ∀ x, eHas E m1 v1 x → w1.heap.size ≤ x ∧ x ≠ X) (hdx : ∀ x, dHas W0.heap.size vs' x → x ≠ X)
    (hW3 : W3 = w2.alloc (.cells (bnC (W0.heap.size + 1) X z) 39)) : BcFin z R w w2.heap.size W3 := by
  have hz2 := hc.size
  have h00 := hW0.size
  have hb3 : Below w2.heap.size w2 W3 := by rw [hW3]; exact (Below.refl _ _).alloc (Nat.le_refl _) _
  have r : W3.heap[w2.heap.size]? = some (.cells (bnC (W0.heap.size + 1) X z) 39 (0, 0)) := by rw [hW3, _root_.Go.heap_alloc_new]
  have hc3 : ∀ j, W3.cell? ⟨w2.heap.size, j, none⟩ = (bnC (W0.heap.size + 1) X z)[j]? := fun j => cell_row r j
  have hwk := hR.wk
  have hX2 : X < w2.heap.size := block_lt_of_cell hxa
  have nD1 : ∀ x, dHas W0.heap.size nilV x → x = W0.heap.size := fun x q => by
    rcases q with q | ⟨i, _, q⟩
    · exact q
    · cases q
  have hx2 : XAt (W0.heap.size + 1) W0.heap.size w2 := (World.cell?_of_block (hc.other _ (by show W0.heap.size + 1 < _; omega) (fun q => by have := nD1 _ q; have q' : W0.heap.size + 1 = W0.heap.size := this; omega))).trans hx1
  have hdv : ∀ x, dHas W0.heap.size vs' x → x = W0.heap.size ∨ w1.heap.size ≤ x := fun x q => (vo x q).imp (nD1 x) id
  have hk : ∀ x, x < w2.heap.size → W3.heap[x]? = w2.heap[x]? := fun x q => hb3.block x q
  have hbel : Below w.heap.size w W3 := by
    have hb2 : Below w.heap.size w1 w2 := hc.below (by omega) (fun x q => by have := nD1 x q; omega)
    exact ((hW0.trans (hb1.mono h00)).trans hb2).trans (hb3.mono (by omega))
  refine ⟨⟨W0.heap.size + 1, W0.heap.size, R.2.2, vs', z, .slice none 0 0⟩, ⟨X, E, R.2.1, m1, v1⟩, ⟨⟨?_, fun j => ?_, ?_, ?_, fun j u q => ?_, ?_, ?_, ?_, ?_, ?_, hz, ⟨by omega, fun x q => ?_⟩, fun q => ?_, fun q => ?_⟩, fun q => (by cases q), fun e q => ?_⟩, hbel, rfl, rfl, rfl, rfl⟩
  · exact (Array.getElem?_eq_some_iff.1 r).1
  · unfold World.frozen?; rw [r]; simp
  · rw [hc3, (bnC_get _ _ z hz.len 0).2]; rfl
  · exact ⟨_, by rw [hc3, (bnC_get _ _ z hz.len 1).2]; rfl⟩
  · have hj : j < 138 := by have := (List.getElem?_eq_some_iff.1 q).1; rw [List.length_map, hz.len] at this; exact this
    rw [hc3, (bnC_get _ _ z hz.len (2 + j)).2, if_pos (by omega), Nat.add_sub_cancel_left, ← q]
    unfold S
    simp
  · rw [hc3, (bnC_get _ _ z hz.len 140).2, if_neg (by omega), if_neg (by omega), if_neg (by omega)]
    exact bnC0_last
  · exact (World.cell?_of_block (hk _ (by show W0.heap.size + 1 < _; omega))).trans hx2
  · exact hd.kept hb3.size (fun x q => hk x (hd.has q).2)
  · exact hR.dv
  · show 0 ≤ R.2.2.wk ∧ R.2.2.wk ≤ ((1 : Nat) : Int)
    rw [hwk]
    decide
  · rcases q with q | q
    · have q' : x = W0.heap.size + 1 := q; omega
    · rcases hdv x q with c | c <;> omega
  · rcases q with q | q
    · have q' : w2.heap.size = W0.heap.size + 1 := q; omega
    · have := (hd.has q).2; omega
  · rcases hdv _ q with c | c
    · have c' : W0.heap.size + 1 = W0.heap.size := c; omega
    · have c' : w1.heap.size ≤ W0.heap.size + 1 := c; omega
  · cases q
    refine ⟨by rw [hc3, (bnC_get _ _ z hz.len 1).2]; rfl, (World.cell?_of_block (hk _ hX2)).trans hxa, hea.eg.kept (fun x q => hk x (hea.eg.has q).2), ?_, hR.z, fun x q => ?_, fun q => ?_, fun q => (hef X q).2 rfl, fun x q1 q2 => ?_⟩
    · exact hR.gk
    · rcases q with q | q
      · have q' : x = X := q; omega
      · have := (hef x q).1; omega
    · rcases q with q | q
      · have q' : w2.heap.size = X := q; omega
      · have := (hea.eg.has q).2; omega
    · have hx1' : w1.heap.size ≤ x := by
        rcases q1 with q1 | q1
        · have q1' : x = X := q1; omega
        · exact (hef x q1).1
      rcases q2 with q2 | q2
      · have q2' : x = W0.heap.size + 1 := q2; omega
      · rcases q1 with q1 | q1
        · exact hdx x q2 q1
        · exact hea.sep x q1 q2
set_option maxRecDepth 100000 in
set_option maxHeartbeats 4000000 in
theorem bench_any (z : List Int) (w : World) (hz : RunOK z) (ht : Tab w) :
    Calls Tryz.prog 7 #[.agg (S z)] w fun e' w' => ∃ B, e' = .returned (.pointer (some ⟨B, 0, none⟩)) ∧ BcFin z (op0 z) w B w' := by
  obtain ⟨W0, hW0⟩ : ∃ W0, W0 = w.alloc (.cells (S z) 25) := ⟨_, rfl⟩
  have hb0 : Below w.heap.size w W0 := by rw [hW0]; exact (Below.refl _ _).alloc (Nat.le_refl _) _
  have hs0 : W0.heap.size = w.heap.size + 1 := by rw [hW0, size_alloc1]
  have r0 : RowI W0 w.heap.size 25 z := by unfold RowI; rw [hW0, _root_.Go.heap_alloc_new]
  have HND := hide (newDevice_any W0)
  have hzl := hz.len
  have HZ := hide hz; have HB0 := hide hb0; have HR0 := hide r0; have HT := hide ht; have HW0 := hide hW0
  have HBd := hide (fun X Y w' => build_bn X Y z hzl w')
  have szl := zlen z hzl
  have HS0 := hide hs0
  clear hz ht hb0 r0 hW0 hs0
  go_enter Tryz.func7, Tryz.ntmps7
  go_upto_region 1 with fail
  rw [← HW0.out]
  go_wp2_with fail
  refine (unhide HND).mono ?_
  rintro e w1 ⟨rfl, hd1, hx1, hs1, hb1⟩
  have r1 : RowI w1 w.heap.size 25 z := HR0.out.keep (hb1.block _ HR0.out.lt)
  have g1 := range_row r1 0 138 (by omega)
  rw [List.drop_zero, List.take_of_length_le (by omega)] at g1
  have HSt := hide (cStart_any (W0.heap.size + 1) W0.heap.size dv0 nilV z w1 hx1 hd1 (HT.out.below HT.out.pos (HB0.out.trans (hb1.mono (by have := HS0.out; omega)))) hzl HZ.out.st)
  have HX1 := hide hx1; have HS1 := hide hs1; have HB1 := hide hb1; have HR1 := hide r1
  clear hd1 hx1 hs1 hb1 r1 HND
  go_wp2_with (refine wpList_load_mid rfl 25 _ rfl w.heap.size 0 rfl (z.map (Value.int .i64)) _ g1 Tryz.underlying25 rfl szl ?_)
  refine (unhide HSt).mono ?_
  rintro e w2 ⟨vs', hd, hc, vo, hres⟩
  have e1 : wrap64 (dv0.wk + 1) = 1 := wrap_one
  have hop : openE dOps (newG 1 z) (engD dv0) = op0 z := by unfold op0; rfl
  rw [e1, hop] at hd hres
  have HO := hide (op0_ok HZ.out)
  obtain ⟨R, hR⟩ : ∃ R, R = op0 z := ⟨_, rfl⟩
  rw [← hR] at hd hres HO
  have HRe := hide hR
  clear hR
  rcases hres with ⟨hn, _⟩ | ⟨_, X, E, m1, v1, hE, hX, rfl, hxa, hea, hef, hdx⟩
  · exact absurd HO.out.ok hn
  have hws : w.heap.size < w1.heap.size := HR1.out.lt
  have r2 : RowI w2 w.heap.size 25 z := HR1.out.keep (hc.other _ hws (fun q => by
    rcases q with q | ⟨i, _, q⟩
    · have := HS0.out; omega
    · cases q))
  have g2 := range_row r2 0 138 (by omega)
  rw [List.drop_zero, List.take_of_length_le (by omega)] at g2
  have HEnd : Hid (∀ W3, W3 = w2.alloc (.cells (bnC (W0.heap.size + 1) X z) 39) → BcFin z R w w2.heap.size W3) := fun W3 e => bc_end HO.out HZ.out HB0.out HB1.out HS1.out HX1.out hd hc vo hX hxa hea hef hdx e
  clear hd hc vo hE hX hxa hea hef hdx r2 g1 HSt e1 hop
  go_upto_region 7 with fail
  go_wp2_with (first
    | (refine wpList_load_midZ rfl 25 _ rfl w.heap.size 0 rfl z _ g2 Tryz.underlying25 rfl szl ?_)
    | (refine wpList_build3 rfl 39 0 1 2 _ _ _ rfl (.pointer (some ⟨W0.heap.size + 1, 0, none⟩)) (.pointer (some ⟨X, 0, none⟩)) (.agg (S z)) (.agg (bnC (W0.heap.size + 1) X z)) rfl rfl rfl (HBd.out _ _ _) ?_))
  go_ret
  exact ⟨w2.heap.size, rfl, by rw [← HRe.out]; exact HEnd.out _ rfl⟩
end Go.Proofs.YtmmflekajbeamabGreatDoor

namespace Go.Proofs.YtmmflekajbeamabGreatDoor
open Go.RowKit Go.Maps Go.WideMaps

def fsZ : List Int := zeroZ.set 8 17825799
def fs1 : EgN × Nat := runE (op0 fsZ).2.1 9
def fs2 : Int × EgN × DvN := persE dOps fs1.1 (op0 fsZ).2.2
def fs3 : Int × EgN × DvN := openE dOps (newG 2 fsZ) (engD fs2.2.2)
def fs4 : EgN × Nat := runE fs3.2.1 9
/-- What the small program comes to. -/
structure Fst (R0 : Int × EgN × DvN) (R1 : EgN × Nat) (R2 R3 : Int × EgN × DvN) (R4 : EgN × Nat) : Prop where
  o1 : overE R0.2.1 R0.2.2.wk = false
  n1 : R1.2 = 2
  o2 : overE R1.1 R0.2.2.wk = false
  p2 : R2.1 = 0
  k2 : (knT (R2.2.1.b 0)).length = 1
  w2 : R2.2.2.wk = 1
  s3 : R3.1 = 0
  o3 : overE R3.2.1 R3.2.2.wk = false
  n4 : R4.2 = 2
  c1 : R4.1.c 1 = 1
  c3 : R4.1.c 3 = 0
  r1 : gz R4.1.z 1 = 7
  st : gz R4.1.z 137 = 1
theorem fst_all : Fst (op0 fsZ) fs1 fs2 fs3 fs4 := ⟨by decide +kernel, by decide +kernel, by decide +kernel, by decide +kernel, by decide +kernel, by decide +kernel, by decide +kernel, by decide +kernel, by decide +kernel, by decide +kernel, by decide +kernel, by decide +kernel, by decide +kernel⟩
theorem fsZ_ok : RunOK fsZ := ⟨rfl, by decide +kernel⟩
/-- An engine and its device, with the boxes that stand for them. -/
structure Ec (N B X E XD D : Nat) (g : EgN) (d : DvN) (m v vs : Nat → Value) (k : Nat) (w : World) : Prop where
  x : XAt X E w
  xd : XAt XD D w
  ed : EdAt E D g d m v vs w
  ok : GOK g k
  kp : ∀ y, y = X ∨ y = XD ∨ y = B → y < w.heap.size ∧ ¬ (eHas E m v y ∨ dHas D vs y)
  ge : ∀ y, eHas E m v y ∨ dHas D vs y → N ≤ y
theorem Ec.step {N B X E XD D : Nat} {g g' : EgN} {d d' : DvN} {m v vs m' v' vs' : Nat → Value} {k k' : Nat} {w w' : World} (h : Ec N B X E XD D g d m v vs k w) (hN : N ≤ w.heap.size) (a : EdAt E D g' d' m' v' vs' w') (f : EdFr E D m v vs m' v' vs' w w') (ok : GOK g' k') : Ec N B X E XD D g' d' m' v' vs' k' w' ∧ Below N w w' ∧ w'.heap[B]? = w.heap[B]? := by
  have hk : ∀ y, y = X ∨ y = XD ∨ y = B → w'.heap[y]? = w.heap[y]? := fun y q => f.chg.other y (h.kp y q).1 (h.kp y q).2
  refine ⟨⟨(World.cell?_of_block (hk X (.inl rfl))).trans h.x, (World.cell?_of_block (hk XD (.inr (.inl rfl)))).trans h.xd, a, ok, fun y q => ⟨Nat.lt_of_lt_of_le (h.kp y q).1 f.chg.size, fun c => ?_⟩, fun y c => ?_⟩, f.chg.below hN (fun y q => h.ge y q), hk B (.inr (.inr rfl))⟩
  · rcases c with c | c
    · rcases f.eo y c with e | e
      · exact (h.kp y q).2 (.inl e)
      · have := (h.kp y q).1; omega
    · rcases f.vo y c with e | e
      · exact (h.kp y q).2 (.inr e)
      · have := (h.kp y q).1; omega
  · rcases c with c | c
    · rcases f.eo y c with e | e
      · exact h.ge y (.inl e)
      · omega
    · rcases f.vo y c with e | e
      · exact h.ge y (.inr e)
      · omega
theorem Ec.up {N B X E XD D : Nat} {g : EgN} {d : DvN} {m v vs : Nat → Value} {k : Nat} {w w' : World} (h : Ec N B X E XD D g d m v vs k w) (hN : N ≤ w.heap.size) (hb : Below w.heap.size w w') : Ec N B X E XD D g d m v vs k w' := (h.step hN (h.ed.up hb) (EdFr.of_below hb) h.ok).1
theorem BnAt.ec {N B : Nat} {b : Bn} {e : En} {m k : Nat} {w : World} (h : BnAt N B b (some e) m k w) : Ec N B e.X e.E b.X b.D e.g b.d e.m e.v b.vs k w := by
  have hE := h.2.2 e rfl
  refine ⟨hE.x, h.1.x, h.ed, hE.ok, fun y q => ?_, fun y q => ?_⟩
  · rcases q with rfl | rfl | rfl
    · exact ⟨hE.xlt, fun c => c.elim hE.nX (fun c => hE.sp _ (.inl rfl) (.inr c))⟩
    · exact ⟨h.1.xlt, fun c => c.elim (fun c => hE.sp _ (.inr c) (.inl rfl)) h.1.nX⟩
    · exact ⟨h.1.lt, fun c => c.elim (fun c => hE.nB (.inr c)) (fun c => h.1.nB (.inr c))⟩
  · rcases q with q | q
    · exact hE.ge y (.inr q)
    · exact h.1.ge.2 y (.inr q)
theorem Ec.run {N B X E XD D : Nat} {g : EgN} {d : DvN} {m v vs : Nat → Value} {k : Nat} {w : World} (h : Ec N B X E XD D g d m v vs k w) (hN : N ≤ w.heap.size) (ht : Tab w) (hk : k ≤ 99999900000) (n : Nat) (hn : n ≤ 2000) (ho : overE g d.wk = false) :
    Calls Tryz.prog 18 #[.pointer (some ⟨X, 0, none⟩), .int .i64 (n : Int)] w fun e' w' => e' = .returned (.tuple #[.int .i64 ((runE g n).2 : Int), .int .i64 0]) ∧ ∃ m' v', Ec N B X E XD D (runE g n).1 d m' v' vs (k + 8004) w' ∧ Below N w w' ∧ w'.heap[B]? = w.heap[B]? := by
  refine cRun_of X E n w h.x _ (fun e' w' q => ⟨_, _, q.1⟩) ?_
  refine (eRun_ok E D g d m v vs n w k h.ed ht ho hn h.ok.run hk).mono ?_
  rintro e' w1 ⟨rfl, m1, v1, a, c, o⟩
  obtain ⟨a1, f⟩ := h.ed.egs a c o
  exact ⟨rfl, m1, v1, h.step hN a1 f ((h.ok.runE n).1.more (by omega))⟩
theorem Ec.persist {N B X E XD D : Nat} {g : EgN} {d : DvN} {m v vs : Nat → Value} {k : Nat} {w : World} (h : Ec N B X E XD D g d m v vs k w) (hN : N ≤ w.heap.size) (ht : Tab w) (hk : k ≤ 99999900000) (ho : overE g d.wk = false) :
    Calls Tryz.prog 16 #[.pointer (some ⟨X, 0, none⟩)] w fun e' w' => e' = .returned (.int .i64 (persE dOps g d).1) ∧ ∃ m' v' vs', Ec N B X E XD D (persE dOps g d).2.1 (persE dOps g d).2.2 m' v' vs' k w' ∧ Below N w w' ∧ w'.heap[B]? = w.heap[B]? := by
  refine cPersist_of X E w h.x _ (fun e' w' q => ⟨_, q.1⟩) ?_
  refine (ePersist_any E D g d m v vs w h.ed ht (h.ok.eg (by omega)) h.ok.sz ho).mono ?_
  rintro e' w1 ⟨rfl, m1, v1, vs1, a, f⟩
  exact ⟨rfl, m1, v1, vs1, h.step hN a f (h.ok.pers d)⟩
theorem Ec.known {N B X E XD D : Nat} {g : EgN} {d : DvN} {m v vs : Nat → Value} {k : Nat} {w : World} (h : Ec N B X E XD D g d m v vs k w) (hk : k ≤ 99999900000) :
    Calls Tryz.prog 19 #[.pointer (some ⟨X, 0, none⟩)] w fun e' w' => ∃ u, e' = .returned u ∧ w'.ownsRow w.heap.size 71 2 u (knT (g.b 0)).length (knCs (knT (g.b 0))) ∧ Below w.heap.size w w' := by
  refine cKnown_of X E w h.x _ (fun e' w' q => by obtain ⟨u, q, _⟩ := q; exact ⟨u, q⟩) ?_
  exact eKnown_any E D g m v w h.ed.eg (by have := h.ok.sm; omega)
/-- A start over the device that an engine works over already. -/
theorem Ec.start {N B X E XD D : Nat} {g : EgN} {d : DvN} {m v vs : Nat → Value} {k : Nat} {w : World} (h : Ec N B X E XD D g d m v vs k w) (hN : N ≤ w.heap.size) (ht : Tab w) {z : List Int} (hz : RunOK z) (ho : (openE dOps (newG (wrap64 (d.wk + 1)) z) (engD d)).1 = 0) :
    Calls Tryz.prog 20 #[.pointer (some ⟨XD, 0, none⟩), .agg (S z)] w fun e' w' => ∃ X' E' m' v' vs', e' = .returned (.tuple #[.pointer (some ⟨X', 0, none⟩), .int .i64 0]) ∧ Ec N B X' E' XD D (openE dOps (newG (wrap64 (d.wk + 1)) z) (engD d)).2.1 (openE dOps (newG (wrap64 (d.wk + 1)) z) (engD d)).2.2 m' v' vs' 1500 w' ∧ Below N w w' := by
  have gok := GOK.open hz (wrap64 (d.wk + 1)) (engD d) h.ed.dv.len
  refine (cStart_any XD D d vs z w h.xd h.ed.dv ht hz.len hz.st).mono ?_
  generalize openE dOps (newG (wrap64 (d.wk + 1)) z) (engD d) = R at *
  rintro e w2 ⟨vs', hd, hc, vo, ⟨hn, _⟩ | ⟨_, X', E', m', v', hE, hX, rfl, hxa, hea, hef, hdx⟩⟩
  · exact absurd ho hn
  have hz2 := hc.size
  have hXD : ¬ dHas D vs XD := fun q => (h.kp XD (.inr (.inl rfl))).2 (.inr q)
  have hB : ¬ dHas D vs B := fun q => (h.kp B (.inr (.inr rfl))).2 (.inr q)
  have hXl := (h.kp XD (.inr (.inl rfl))).1
  have hBl := (h.kp B (.inr (.inr rfl))).1
  have old : ∀ y, y < w.heap.size → ¬ dHas D vs y → ¬ (eHas E' m' v' y ∨ dHas D vs' y) := fun y hy hn c => by
    rcases c with c | c
    · have := (hef y c).1; omega
    · rcases vo y c with e | e
      · exact hn e
      · omega
  refine ⟨X', E', m', v', vs', rfl, ⟨hxa, (World.cell?_of_block (hc.other XD hXl hXD)).trans h.xd, hea, gok, fun y q => ?_, fun y q => ?_⟩, hc.below hN (fun y q => h.ge y (.inr q))⟩
  · rcases q with rfl | rfl | rfl
    · exact ⟨block_lt_of_cell hxa, fun c => c.elim (fun c => (hef _ c).2 rfl) (fun c => hdx _ c rfl)⟩
    · exact ⟨by omega, old _ hXl hXD⟩
    · exact ⟨by omega, old _ hBl hB⟩
  · rcases q with q | q
    · have := (hef y q).1; omega
    · rcases vo y q with e | e
      · exact h.ge y (.inr e)
      · omega
end Go.Proofs.YtmmflekajbeamabGreatDoor

namespace Go.Proofs.YtmmflekajbeamabGreatDoor

/-- What a run does not turn. -/
structure Kp (g g' : EgN) : Prop where
  ar : g'.ar = g.ar
  gn : g'.gn = g.gn
  sz : g'.sz = g.sz
  fl : g'.fl = g.fl
  wk : g'.wk = g.wk
theorem Kp.refl (g : EgN) : Kp g g := ⟨rfl, rfl, rfl, rfl, rfl⟩
theorem Kp.trans {a b c : EgN} (h : Kp a b) (k : Kp b c) : Kp a c := ⟨k.ar.trans h.ar, k.gn.trans h.gn, k.sz.trans h.sz, k.fl.trans h.fl, k.wk.trans h.wk⟩
theorem prep_kp (g : EgN) (ws : List Nat) : Kp g (prepE g ws).1 := by
  unfold prepE
  split
  · split <;> exact ⟨rfl, rfl, rfl, rfl, rfl⟩
  · exact ⟨rfl, rfl, rfl, rfl, rfl⟩
theorem plan_kp (g : EgN) (ws : List Nat) : Kp g (planE g ws).1 := by
  unfold planE
  split
  · exact ⟨rfl, rfl, rfl, rfl, rfl⟩
  · have q := prep_kp g ws
    exact ⟨q.ar, q.gn, q.sz, q.fl, q.wk⟩
theorem adv_kp (g : EgN) (fuel : Nat) : Kp g (advE g fuel).1 := by
  unfold advE
  split
  · exact ⟨rfl, rfl, rfl, rfl, rfl⟩
  · have q := plan_kp g (wsZ g.z)
    exact ⟨q.ar, q.gn, q.sz, q.fl, q.wk⟩
theorem runL_kp (fuel : Nat) : ∀ (f : Nat) (g : EgN) (n : Nat), Kp g (runL f g fuel n).1
  | 0, g, n => Kp.refl g
  | f + 1, g, n => by
    rw [runL]
    split
    · exact (adv_kp g _).trans (runL_kp fuel f _ _)
    · exact Kp.refl g
/-- Runs, one behind the other. -/
def runsE (g : EgN) (ns : List Nat) : EgN := ns.foldl (fun g n => (runE g n).1) g
theorem runsE_kp : ∀ (ns : List Nat) (g : EgN), Kp g (runsE g ns)
  | [], g => Kp.refl g
  | n :: ns, g => (runL_kp n (n + 1) g 0).trans (runsE_kp ns _)
theorem E1.runs : ∀ (ns : List Nat) (g : EgN) (k : Nat), (∀ n ∈ ns, n ≤ 2000) → GOK g k → E1 g → E1 (runsE g ns) ∧ ∃ r, (runsE g ns).b 1 = g.b 1 ++ r
  | [], g, k, _, _, h => ⟨h, [], by rw [List.append_nil]; rfl⟩
  | n :: ns, g, k, hn, hg, h => by
    obtain ⟨a, r, e⟩ := E1.runL n (n + 1) g k 0 h hg.run
    obtain ⟨b, r', e'⟩ := E1.runs ns (runE g n).1 _ (fun x hx => hn x (List.mem_cons_of_mem _ hx)) (hg.runE n).1 a
    refine ⟨b, r ++ r', ?_⟩
    have q : (runsE g (n :: ns)).b 1 = (runsE (runE g n).1 ns).b 1 := rfl
    rw [q, e']
    show (Go.Proofs.YtmmflekajbeamabGreatDoor.runL (n + 1) g n 0).1.b 1 ++ r' = _
    rw [e, List.append_assoc]
theorem E2.runs {K : List KwN} : ∀ (ns : List Nat) (g h : EgN) (k : Nat), (∀ n ∈ ns, n ≤ 2000) → GOK g k → E2 K g h → E1 g → (∀ x ∈ (runsE g ns).b 1, fB K x.1 = some x.2) → E2 K (runsE g ns) (runsE h ns)
  | [], g, h, k, _, _, a, _, _ => a
  | n :: ns, g, h, k, hn, hg, a, e, hk => by
    obtain ⟨e', _⟩ := E1.runL n (n + 1) g k 0 e hg.run
    have hn' : ∀ x ∈ ns, x ≤ 2000 := fun x hx => hn x (List.mem_cons_of_mem _ hx)
    have hk1 : ∀ x ∈ (Go.Proofs.YtmmflekajbeamabGreatDoor.runL (n + 1) g n 0).1.b 1, fB K x.1 = some x.2 := fun x hx => hk x (by
      obtain ⟨_, r, er⟩ := E1.runs ns (runE g n).1 _ hn' (hg.runE n).1 e'
      have q : (runsE g (n :: ns)).b 1 = (runsE (runE g n).1 ns).b 1 := rfl
      rw [q, er]
      exact List.mem_append_left _ hx)
    obtain ⟨b, _⟩ := E2.runL n (n + 1) g h k 0 a e hg.run hk1
    exact E2.runs ns (runE g n).1 (runE h n).1 _ hn' (hg.runE n).1 b e' hk
/-- A book tells of each of its blocks the plan that it holds. -/
theorem fB_self {l : List KwN} (h : BkOK l) {x : KwN} (hx : x ∈ l) : fB l x.1 = some x.2 := by
  cases hq : fB l x.1 with
  | none =>
    have q := fB_not hq
    rw [List.findIdx?_eq_none_iff] at q
    have := q x.1 (List.mem_map.2 ⟨x, hx, rfl⟩)
    simp at this
  | some p =>
    obtain ⟨n, hn, _⟩ := fB_some hq
    obtain ⟨m, hm⟩ := List.getElem?_of_mem hx
    have hd := h.one
    have e : n = m := by
      have h1 : (bkW l)[n]? = some x.1 := by show (l.map _)[n]? = _; rw [List.getElem?_map, hn]; rfl
      have h2 : (bkW l)[m]? = some x.1 := by show (l.map _)[m]? = _; rw [List.getElem?_map, hm]; rfl
      have l1 := (List.getElem?_eq_some_iff.1 h1).1
      exact (List.getElem?_inj l1 hd).1 (h1.trans h2.symm)
    rw [e, hm] at hn
    exact congrArg some (congrArg Prod.snd (Option.some.inj hn)).symm
theorem knT_en {l : List KwN} (h : BkOK l) (hp : ∀ x ∈ l, payL x) : ∀ x ∈ knT l, EnOK x := fun x hx => by
  obtain ⟨y, hy, rfl⟩ := List.mem_map.1 hx
  exact ⟨h.blk y hy, hp y hy⟩
theorem tog_new {g : EgN} (h0 : g.b 0 = []) (h : BkOK (g.b 1)) : togB g = g.b 1 := by
  unfold togB
  rw [h0]
  show bookL ([] ++ knT (g.b 1)) = _
  rw [List.nil_append]
  exact bookL_self h
/-- A device that no trouble waits for, all of it synced. -/
structure Sy (d : DvN) : Prop where
  tr : d.tr = 0
  n : ∀ i, i < 2 → d.n i = (d.b i).length
theorem crash_sync {d : DvN} (h : Sy d) (keep : Int) (j : List UInt8) : ∀ i, i < 2 → (dCrash d keep j).b i = d.b i := by
  have one : ∀ k i, i < 2 → k ≤ 2 → (crN d keep j k).b i = d.b i ∧ (crN d keep j k).n i = d.n i := by
    intro k
    induction k with
    | zero => intro i _ _; exact ⟨rfl, rfl⟩
    | succ k ih =>
      intro i hi hk
      obtain ⟨a, b⟩ := ih i hi (by omega)
      obtain ⟨a', b'⟩ := ih k (by omega) (by omega)
      have hl := h.n k (by omega)
      have e : crB ((crN d keep j k).b k) ((crN d keep j k).n k) keep j = d.b k := by
        rw [a', b', hl]
        unfold crB
        rw [Nat.sub_self, Nat.min_zero, Nat.add_zero, List.take_length, Nat.sub_zero, List.take_zero, List.append_nil]
      unfold crN
      rw [e]
      by_cases c : i = k
      · subst c
        exact ⟨upd_at _ _ _, by show upd (crN d keep j i).n i _ i = _; rw [upd_at]; exact hl.symm⟩
      · exact ⟨by show upd (crN d keep j k).b k _ i = _; rw [upd_ne _ _ _ _ c]; exact a, by show upd (crN d keep j k).n k _ i = _; rw [upd_ne _ _ _ _ c]; exact b⟩
  intro i hi
  exact (one 2 i hi (Nat.le_refl _)).1
theorem mvD_b (d : DvN) : (mvD d).b 0 = d.b 0 ∧ (mvD d).b 1 = d.b 1 := by
  constructor
  · show upd (upd dv0.b 0 (dv0.b 0 ++ d.b 0)) 1 ((mvI d 1).b 1 ++ d.b 1) 0 = _
    rw [upd_ne _ _ _ _ (by decide), upd_at]
    rfl
  · show upd (mvI d 1).b 1 ((mvI d 1).b 1 ++ d.b 1) 1 = _
    rw [upd_at, mvI_nil d 1 1 (Nat.le_refl _)]
    rfl
/-- A start over a calm device: what it reads. -/
theorem read_calm2 {d : DvN} (h : d.tr = 0) (g : EgN) : ∃ d', readE dOps g d = (0, g, d', d.b 0, d.b 1) := by
  have s0 := sync_calm (d := d) h (i := 0) (by decide)
  have s1 := sync_calm (d := { d with n := upd d.n 0 (d.b 0).length }) h (i := 1) (by decide)
  have r0 := read_calm (d := { d with n := upd (upd d.n 0 (d.b 0).length) 1 (d.b 1).length }) h (i := 0) (by decide)
  have r1 := read_calm (d := { d with n := upd (upd d.n 0 (d.b 0).length) 1 (d.b 1).length }) h (i := 1) (by decide)
  refine ⟨{ d with n := upd (upd d.n 0 (d.b 0).length) 1 (d.b 1).length }, ?_⟩
  rw [readE_d]
  have e0 : dSync d 0 = (0, { d with n := upd d.n 0 (d.b 0).length }) := s0
  have e1 : dSync { d with n := upd d.n 0 (d.b 0).length } 1 = (0, { d with n := upd (upd d.n 0 (d.b 0).length) 1 (d.b 1).length }) := s1
  have e2 : dRead { d with n := upd (upd d.n 0 (d.b 0).length) 1 (d.b 1).length } 0 = (d.b 0, 0, { d with n := upd (upd d.n 0 (d.b 0).length) 1 (d.b 1).length }) := r0
  have e3 : dRead { d with n := upd (upd d.n 0 (d.b 0).length) 1 (d.b 1).length } 1 = (d.b 1, 0, { d with n := upd (upd d.n 0 (d.b 0).length) 1 (d.b 1).length }) := r1
  rw [e0]
  simp only [if_true]
  rw [e1]
  simp only [if_true]
  rw [e2]
  simp only [if_true]
  rw [e3]
  simp only [if_true]
end Go.Proofs.YtmmflekajbeamabGreatDoor
