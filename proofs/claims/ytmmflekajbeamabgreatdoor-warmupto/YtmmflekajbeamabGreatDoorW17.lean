/-
  The law's book of blocks and plans: a list that came out is written full of marks, appended to, and kept (keepPlans).
  The law's book of plans: its looks (lookPlans, looks).
  The law's world of devices: NewDevice (World.device).
  The law's world of devices: a step (World.step) of the kinds of devices.
  The law's step (World.step), of the kinds of devices.
  The law's step of a device that there is; every step of the kinds of devices.
  THE LAW Devices: what it begins with (criblaw.begins), the book that has nothing (Book.looks).
  THE LAW Devices, walked (criblaw.plays, criblaw.Devices).
  The engine's book: a block's words as a map's key.
  The engine's book in memory: plans by their blocks' words, each block once, in the order in which they came.
  The engine's book: a plan is found (book.find).
  The engine's book: a plan is laid in (book.lay), where the words are there.
  The engine's book: a plan is laid in (book.lay), where the words are not there yet; the whole of lay.
-/
import Derived.Test.YtmmflekajbeamabGreatDoorW16
import Derived.Deep.MidRow
import Derived.Great.BuildSlice
namespace Go.Proofs.YtmmflekajbeamabGreatDoor
open Go.RowKit

end Go.Proofs.YtmmflekajbeamabGreatDoor

namespace Go.Proofs.YtmmflekajbeamabGreatDoor
open Go.RowKit

end Go.Proofs.YtmmflekajbeamabGreatDoor

namespace Go.Proofs.YtmmflekajbeamabGreatDoor
open Go.RowKit

end Go.Proofs.YtmmflekajbeamabGreatDoor

namespace Go.Proofs.YtmmflekajbeamabGreatDoor
open Go.RowKit

end Go.Proofs.YtmmflekajbeamabGreatDoor

namespace Go.Proofs.YtmmflekajbeamabGreatDoor
open Go.RowKit

end Go.Proofs.YtmmflekajbeamabGreatDoor

namespace Go.Proofs.YtmmflekajbeamabGreatDoor
open Go.RowKit

end Go.Proofs.YtmmflekajbeamabGreatDoor

namespace Go.Proofs.YtmmflekajbeamabGreatDoor
open Go.RowKit

end Go.Proofs.YtmmflekajbeamabGreatDoor

namespace Go.Proofs.YtmmflekajbeamabGreatDoor
open Go.RowKit

end Go.Proofs.YtmmflekajbeamabGreatDoor

namespace Go.Proofs.YtmmflekajbeamabGreatDoor
open Go.RowKit Go.Maps Go.WideMaps

theorem rowW : (131 : TypeId) < Tryz.prog.types.size := of_decide_eq_true (by kernel_rfl)
theorem wideW : (match Tryz.prog.underlying 131 with | some (.array _ _) | some (.struct _) => true | _ => false) = true := by rw [Tryz.underlying131]
set_option maxRecDepth 100000 in
theorem lawW : Keyed Tryz.prog 131 := Keyed.of_law (deep_law_laid loE (m := 3) (by omega) rowW (by kernel_rfl) wideW)
theorem ktW : Tryz.prog.keyType 131 = true := by kernel_rfl
theorem csW : Tryz.prog.cellsOf 131 = 9 := by kernel_rfl
theorem csW8 : Tryz.prog.cellsOf 22 = 8 := by kernel_rfl
def wB (x : Int) : Prop := -9223372036854775808 ≤ x ∧ x ≤ 9223372036854775807
def keyW (z : List Int) : Lit := .string (keyBytes (z.map (Lit.int .i64)))
theorem wf_of {x : Int} (h : wB x) : (Lit.int .i64 x).wf = true := by unfold wB at h; refine WalkArith.wf_i64 ?_ <;> omega
set_option maxRecDepth 100000 in
theorem keyOfW (z : List Int) (hz : z.length = 9) (hb : ∀ x ∈ z, wB x) : keyOf Tryz.prog 131 (.agg (S z)) = some (keyW z) := by
  match z, hz with
  | [a, b, c, d, e, f, g, h, i], _ =>
    have wa := wf_of (hb a (by simp))
    have wb := wf_of (hb b (by simp))
    have wc := wf_of (hb c (by simp))
    have wd := wf_of (hb d (by simp))
    have we := wf_of (hb e (by simp))
    have wf := wf_of (hb f (by simp))
    have wg := wf_of (hb g (by simp))
    have wh := wf_of (hb h (by simp))
    have wi := wf_of (hb i (by simp))
    obtain ⟨m, hm⟩ : ∃ m, Tryz.prog.types.size = m + 3 := ⟨Tryz.prog.types.size - 3, (Nat.sub_add_cancel (Nat.le_of_lt_succ (Nat.lt_of_lt_of_le (by decide : 3 < 4) (Nat.le_trans (by decide : 4 ≤ 100) (of_decide_eq_true (by kernel_rfl : decide (100 ≤ Tryz.prog.types.size + 1) = true)))))).symm⟩
    unfold keyOf
    simp only [Tryz.underlying131]
    rw [if_pos (by simp [ktW, Value.formed, Tryz.underlying131, csW, S]), hm]
    unfold Program.keyLits
    simp only [Tryz.underlying131, Value.cells]
    rw [if_pos (by rw [csW]; exact ⟨rfl, by simp⟩)]
    simp [S, csI, csW8, Program.keyLits, Tryz.underlying3, Tryz.underlying22, wa, wb, wc, wd, we, wf, wg, wh, wi, keyW, List.range, List.range.loop]
end Go.Proofs.YtmmflekajbeamabGreatDoor

namespace Go.Proofs.YtmmflekajbeamabGreatDoor
open Go.RowKit Go.Maps Go.WideMaps

/-- A block's words, and a plan. -/
abbrev KwN := List Nat × List UInt8
def wOK (ws : List Nat) : Prop := ws.length ≤ 8 ∧ ∀ x ∈ ws, x < 4294967296
theorem wdZ_b {ws : List Nat} (h : wOK ws) : ∀ x ∈ wdZ ws, wB x := by
  intro x hx
  unfold wdZ at hx
  unfold wB
  rcases List.mem_cons.1 hx with rfl | hx
  · have := h.1; omega
  · rcases List.mem_append.1 hx with hx | hx
    · unfold nI at hx
      obtain ⟨y, hy, rfl⟩ := List.mem_map.1 hx
      have := h.2 y hy
      omega
    · unfold zr at hx
      have := (List.mem_replicate.1 hx).2
      omega
def kW (ws : List Nat) : Lit := keyW (wdZ ws)
theorem keyOfWs {ws : List Nat} (h : wOK ws) : keyOf Tryz.prog 131 (.agg (S (wdZ ws))) = some (kW ws) := keyOfW (wdZ ws) (wdZ_len h.1) (wdZ_b h)
theorem wdZ_inj {ws ws' : List Nat} (e : wdZ ws = wdZ ws') : ws = ws' := by
  have h0 : (ws.length : Int) = (ws'.length : Int) := by have := congrArg (fun z => gz z 0) e; simpa [wdZ_0] using this
  have hl : ws.length = ws'.length := by omega
  apply List.ext_getElem?
  intro i
  rcases Nat.lt_or_ge i ws.length with hi | hi
  · have h1 := wdZ_at (ws := ws) hi
    have h2 := wdZ_at (ws := ws') (i := i) (by omega)
    rw [e, h2] at h1
    rw [List.getElem?_eq_getElem hi, List.getElem?_eq_getElem (by omega : i < ws'.length)]
    have q1 : ws.getD i 0 = ws[i] := by simp [List.getD, hi]
    have q2 : ws'.getD i 0 = ws'[i]'(by omega) := by simp [List.getD, (by omega : i < ws'.length)]
    rw [q1, q2] at h1
    congr 1
    omega
  · rw [List.getElem?_eq_none hi, List.getElem?_eq_none (by omega)]
theorem kW_inj {ws ws' : List Nat} (h : wOK ws) (h' : wOK ws') (e : kW ws = kW ws') : ws = ws' := by
  have h1 := keyOfWs h
  have h2 := keyOfWs h'
  rw [e] at h1
  have h3 := lawW.inj h1 h2
  have h4 : S (wdZ ws) = S (wdZ ws') := by simpa using h3
  refine wdZ_inj ?_
  unfold S at h4
  have h5 : (wdZ ws).map (Value.int .i64) = (wdZ ws').map (Value.int .i64) := by simpa using h4
  exact List.map_inj_right (fun a b q => by cases q; rfl) |>.1 h5
/-- The words of a book. -/
def bkW (l : List KwN) : List (List Nat) := l.map (·.1)
def bkCs (l : List KwN) : List Value := knCs (l.map fun k => (wdsT k.1, k.2))
/-- A map's datum tells where the words stand. -/
def BoOK (D : DataW Unit) (T : List (List Nat)) : Prop :=
  ∀ ws, wOK ws → (Maps.has D (kW ws) = true ↔ ws ∈ T) ∧ ∀ n : Nat, T[n]? = some ws → (∀ m : Nat, T[m]? = some ws → m = n) → D.atKey (kW ws) (.lit (.int .i64 0)) = .lit (.int .i64 (n : Int))
theorem BoOK.add {D : DataW Unit} {T : List (List Nat)} (h : BoOK D T) (hD : IsMap D) {e : List Nat} (he : wOK e) (hn : e ∉ T) : BoOK (D.put (kW e) (.lit (.int .i64 (T.length : Int)))) (T ++ [e]) := by
  intro e' he'
  obtain ⟨h1, h2⟩ := h e' he'
  by_cases hee : e' = e
  · subst hee
    refine ⟨⟨fun _ => by simp, fun _ => ?_⟩, fun n hn' _ => ?_⟩
    · rw [has_put_same hD (lawW.key (keyOfWs he'))]
    · rw [atKey_put_same hD (lawW.key (keyOfWs he'))]
      have : n = T.length := by
        by_cases hl : n < T.length
        · rw [List.getElem?_append_left hl] at hn'
          exact absurd (List.mem_of_getElem? hn') hn
        · have := (List.getElem?_eq_some_iff.1 hn').1
          simp at this
          omega
      rw [this]
  · have hk : kW e' ≠ kW e := fun q => hee (kW_inj he' he q)
    refine ⟨?_, fun n hn' hu => ?_⟩
    · rw [has_put_other hk, h1]
      simp [hee]
    · rw [atKey_put_other hk]
      have hl : n < T.length := by
        by_cases hl : n < T.length
        · exact hl
        · rw [List.getElem?_append_right (by omega)] at hn'
          have h0 := (List.getElem?_eq_some_iff.1 hn').1
          have h00 : n - T.length = 0 := by simp at h0; omega
          rw [h00] at hn'
          simp at hn'
          exact absurd hn'.symm hee
      rw [List.getElem?_append_left hl] at hn'
      exact h2 n hn' (fun m hm => hu m (by rw [List.getElem?_append_left (List.getElem?_eq_some_iff.1 hm).1]; exact hm))
/-- A book at offset o of block N; what it owns lies from block B on. A nil map has nothing. -/
structure BoAt (B N o : Nat) (l : List KwN) (mv v : Value) (w : World) : Prop where
  c0 : w.cell? ⟨N, o, none⟩ = some mv
  c1 : w.cell? ⟨N, o + 1, none⟩ = some v
  nv : v.ownBlock ≠ some N
  ls : w.ownsRow B 71 2 v l.length (bkCs l)
  ok : ∀ k ∈ l, wOK k.1
  one : ∀ i j : Nat, i < l.length → (bkW l)[i]? = (bkW l)[j]? → i = j
  mp : (mv = .map none ∧ l = []) ∨ ∃ b D, mv = .map (some b) ∧ B ≤ b ∧ w.ownsMap Tryz.prog 131 (plainElem Tryz.prog 3) b l.length D ∧ BoOK D (bkW l)
end Go.Proofs.YtmmflekajbeamabGreatDoor

namespace Go.Proofs.YtmmflekajbeamabGreatDoor
open Go.RowKit Go.Maps Go.WideMaps

theorem bk_cells {w : World} {B g c : Nat} {l : List KwN} (h : w.ownsRow B 71 2 (.slice (some ⟨g, 0, none⟩) l.length c) l.length (bkCs l)) (n : Nat) (k : KwN) (hn : l[n]? = some k) :
    w.cell? ⟨g, n * 2, none⟩ = some (.string (bya (wdsT k.1))) ∧ w.cell? ⟨g, n * 2 + 1, none⟩ = some (.string (bya k.2)) := by
  have hl : (l.map fun k => (wdsT k.1, k.2)).length = l.length := List.length_map _
  have h' := h
  unfold bkCs at h'
  rw [← hl] at h'
  exact kn_cells h' n (wdsT k.1, k.2) (by rw [List.getElem?_map, hn]; rfl)
/-- Where words stand in a book. -/
theorem BoAt.uniq {B N o : Nat} {l : List KwN} {mv v : Value} {w : World} (h : BoAt B N o l mv v w) {n : Nat} {ws : List Nat} (hn : (bkW l)[n]? = some ws) : ∀ m : Nat, (bkW l)[m]? = some ws → m = n := fun m hm => by
  have hl : m < l.length := by have := (List.getElem?_eq_some_iff.1 hm).1; unfold bkW at this; simpa using this
  exact h.one m n hl (by rw [hm, hn])
set_option maxRecDepth 100000 in
set_option maxHeartbeats 2000000 in
theorem find_yes (B N o : Nat) (l : List KwN) (mv v : Value) (n : Nat) (k : KwN) (w : World) (h : BoAt B N o l mv v w) (hn : l[n]? = some k) (hl : l.length ≤ 1000000000000) :
    Calls Tryz.prog 217 #[.pointer (some ⟨N, o, none⟩), .agg (S (wdZ k.1))] w fun e' w' => e' = .returned (.tuple #[.string (bya k.2), .bool true]) ∧ Below w.heap.size w w' := by
  have hw := h.ok k (List.mem_of_getElem? hn)
  have hbn : (bkW l)[n]? = some k.1 := by unfold bkW; rw [List.getElem?_map, hn]; rfl
  rcases h.mp with ⟨_, rfl⟩ | ⟨b, D, rfl, hB, hown, htok⟩
  · cases hn
  have c0 := h.c0
  have c1 := h.c1
  have hnl : n < l.length := (List.getElem?_eq_some_iff.1 hn).1
  obtain ⟨g, c, hv, hgB, hgl⟩ := h.ls.form (by omega)
  rw [hv] at c1
  have hls := h.ls
  rw [hv] at hls
  obtain ⟨_, d1⟩ := bk_cells hls n k hn
  obtain ⟨hh1, hh2⟩ := htok k.1 hw
  have hat := hh2 n hbn (h.uniq hbn)
  have hin : k.1 ∈ bkW l := List.mem_of_getElem? hbn
  have hrun : (Instr.lookup 102 (.map (some b)) (.agg (S (wdZ k.1))) true).run Tryz.prog ((w.alloc (.cells (S (wdZ k.1)) 131)).drew) = .ok (.tuple #[.int .i64 (n : Int), .bool true]) ((w.alloc (.cells (S (wdZ k.1)) 131)).drew) := by
    obtain ⟨x, ps', hrun, hx⟩ := ((hown.alloc (.cells (S (wdZ k.1)) 131)).drew).look_ok lawW Tryz.underlying102 (zeroI _) (plainElem_int (H := Unit) Tryz.underlying3 (a := 0) (by decide)) (keyOfWs hw)
    rw [hh1.2 hin] at hrun
    obtain ⟨a, rfl, ha, _⟩ := plainElem_int_inv Tryz.underlying3 hx
    rw [hat] at ha
    cases ha
    exact hrun
  have HB : Hid (∀ ob : Obj, Below w.heap.size w (w.alloc ob).drew) := fun ob => ((Below.refl _ _).alloc (Nat.le_refl _) ob).drew
  have hNl : N < w.heap.size := block_lt_of_cell c0
  have hz := wdZ_len hw.1
  have hn0 : ¬ (n : Int) < 0 := by omega
  have hn1 : (n : Int) < (l.length : Int) := by omega
  clear h hw hbn hown htok hh1 hh2 hat hin hls hv hn
  generalize wdZ k.1 = z at *
  generalize bya k.2 = P at *
  generalize l.length = L at *
  match z, hz with
  | [a0, a1, a2, a3, a4, a5, a6, a7, a8], _ =>
    simp only [S, List.map_cons, List.map_nil] at hrun ⊢
    go_enter Tryz.func217, Tryz.ntmps217
    go_wp2_with fail
    refine still_all (by kernel_rfl) (by kernel_rfl) ?_
    repeat still_step
    refine wpStill_nil ?_
    go_wp2_with fail
    go_ret2
    exact ⟨rfl, HB.out _⟩
set_option maxRecDepth 100000 in
set_option maxHeartbeats 2000000 in
theorem find_no (B N o : Nat) (l : List KwN) (mv v : Value) (ws : List Nat) (w : World) (h : BoAt B N o l mv v w) (hw : wOK ws) (hn : ws ∉ bkW l) :
    Calls Tryz.prog 217 #[.pointer (some ⟨N, o, none⟩), .agg (S (wdZ ws))] w fun e' w' => e' = .returned (.tuple #[.string ⟨#[]⟩, .bool false]) ∧ Below w.heap.size w w' := by
  have c0 := h.c0
  have hNl : N < w.heap.size := block_lt_of_cell c0
  have hz := wdZ_len hw.1
  have HB : Hid (∀ ob : Obj, Below w.heap.size w (w.alloc ob).drew) := fun ob => ((Below.refl _ _).alloc (Nat.le_refl _) ob).drew
  have key : ∃ x, (Instr.lookup 102 mv (.agg (S (wdZ ws))) true).run Tryz.prog ((w.alloc (.cells (S (wdZ ws)) 131)).drew) = .ok (.tuple #[x, .bool false]) ((w.alloc (.cells (S (wdZ ws)) 131)).drew) := by
    rcases h.mp with ⟨rfl, _⟩ | ⟨b, D, rfl, hB, hown, htok⟩
    · exact ⟨.int .i64 0, Maps.look_nil true lawW Tryz.underlying102 (zeroI _) (keyOfWs hw)⟩
    · obtain ⟨x, ps', hrun, hx⟩ := ((hown.alloc (.cells (S (wdZ ws)) 131)).drew).look_ok lawW Tryz.underlying102 (zeroI _) (plainElem_int (H := Unit) Tryz.underlying3 (a := 0) (by decide)) (keyOfWs hw)
      have hf : Maps.has D (kW ws) = false := by
        cases hq : Maps.has D (kW ws)
        · rfl
        · exact absurd ((htok ws hw).1.1 hq) hn
      rw [hf] at hrun
      exact ⟨x, hrun⟩
  obtain ⟨x, hrun⟩ := key
  have hmv : ∃ ob, mv = .map ob := by
    rcases h.mp with ⟨rfl, _⟩ | ⟨b, D, rfl, _⟩
    · exact ⟨_, rfl⟩
    · exact ⟨_, rfl⟩
  obtain ⟨ob, rfl⟩ := hmv
  clear h hw hn
  generalize wdZ ws = z at *
  match z, hz with
  | [a0, a1, a2, a3, a4, a5, a6, a7, a8], _ =>
    simp only [S, List.map_cons, List.map_nil] at hrun ⊢
    go_enter Tryz.func217, Tryz.ntmps217
    go_wp2_with fail
    refine still_all (by kernel_rfl) (by kernel_rfl) ?_
    repeat still_step
    refine wpStill_nil ?_
    go_wp2_with fail
    go_ret2
    exact ⟨rfl, HB.out _⟩
end Go.Proofs.YtmmflekajbeamabGreatDoor

namespace Go.Proofs.YtmmflekajbeamabGreatDoor
open Go.RowKit Go.Maps Go.WideMaps

theorem own_setAt {w : World} {B k g n cap : Nat} {e : TypeId} {xs : List Value} (h : w.ownsRow B e k (.slice (some ⟨g, 0, none⟩) n cap) n xs) (j : Nat) (u : Value) : (w.setCell ⟨g, j, none⟩ u).ownsRow B e k (.slice (some ⟨g, 0, none⟩) n cap) n (xs.set j u) := by
  rcases h.2 with ⟨q, _⟩ | ⟨g', cap', cur, q, h1, h2, h3, h4, h5, h6⟩
  · cases q
  · cases q
    refine ⟨by rw [List.length_set]; exact h.1, .inr ⟨g, cap, cur.setIfInBounds j u, rfl, h1, ?_, h3, h4, by rw [Array.size_setIfInBounds]; exact h5, ?_⟩⟩
    · simp [World.setCell, Array.getElem?_modify, h2]
    · rw [Array.toList_setIfInBounds, List.take_set, h6]
/-- What laying a plan into the book at o of block N leaves as it was. -/
structure BFr (B N o : Nat) (mv v : Value) (w w' : World) : Prop where
  below : Below B w w'
  other : ∀ g, g < w.heap.size → g ≠ N → (∀ b, mv = .map (some b) → g ≠ b) → v.ownBlock ≠ some g → w'.heap[g]? = w.heap[g]?
  cells : ∀ j, j ≠ o → j ≠ o + 1 → w'.cell? ⟨N, j, none⟩ = w.cell? ⟨N, j, none⟩
  fz : ∀ j, w'.frozen? ⟨N, j, none⟩ = w.frozen? ⟨N, j, none⟩
def layB (l : List KwN) (ws : List Nat) (p : List UInt8) : List KwN :=
  match (bkW l).findIdx? (· == ws) with
  | some n => l.set n (ws, p)
  | none => l ++ [(ws, p)]
theorem bkCs_cons (k : KwN) (l : List KwN) : bkCs (k :: l) = .string (bya (wdsT k.1)) :: .string (bya k.2) :: bkCs l := by simp [bkCs, knCs]
theorem bkCs_set : ∀ (l : List KwN) (n : Nat) (k : KwN) (p : List UInt8), l[n]? = some k → (bkCs l).set (n * 2 + 1) (.string (bya p)) = bkCs (l.set n (k.1, p))
  | [], n, _, _, h => by simp at h
  | x :: l, 0, k, p, h => by
    have : x = k := by simpa using h
    subst this
    rw [List.set_cons_zero, bkCs_cons, bkCs_cons]
    rfl
  | x :: l, n + 1, k, p, h => by
    have h' : l[n]? = some k := by simpa using h
    rw [List.set_cons_succ, bkCs_cons, bkCs_cons, show (n + 1) * 2 + 1 = n * 2 + 1 + 1 + 1 by omega, List.set_cons_succ, List.set_cons_succ, bkCs_set l n k p h']
theorem bkW_set (l : List KwN) (n : Nat) (k : KwN) (p : List UInt8) (h : l[n]? = some k) : bkW (l.set n (k.1, p)) = bkW l := by
  unfold bkW
  rw [List.map_set]
  apply List.ext_getElem?
  intro j
  rw [List.getElem?_set]
  split
  · rename_i e
    subst e
    split
    · rw [List.getElem?_map, h]; rfl
    · rename_i h1
      rw [List.getElem?_eq_none (by omega)]
  · rfl
theorem BoAt.setPlan {B N o : Nat} {l : List KwN} {mv v : Value} {w : World} (h : BoAt B N o l mv v w) {n g c : Nat} {k : KwN} (hn : l[n]? = some k) (hv : v = .slice (some ⟨g, 0, none⟩) l.length c) (p : List UInt8) :
    BoAt B N o (l.set n (k.1, p)) mv v (w.setCell ⟨g, n * 2 + 1, none⟩ (.string (bya p))) ∧ BFr B N o mv v w (w.setCell ⟨g, n * 2 + 1, none⟩ (.string (bya p))) := by
  have hgN : N ≠ g := fun e => h.nv (by rw [hv, e]; rfl)
  have hN : (w.setCell ⟨g, n * 2 + 1, none⟩ (.string (bya p))).heap[N]? = w.heap[N]? := set_other hgN
  have hBg : B ≤ g := (row_lt h.ls g (by rw [hv]; rfl)).1
  refine ⟨⟨(World.cell?_of_block hN).trans h.c0, (World.cell?_of_block hN).trans h.c1, h.nv, ?_, fun x hx => ?_, fun i j hi e => ?_, ?_⟩, ⟨(Below.refl _ _).setCell (p := ⟨g, n * 2 + 1, none⟩) hBg _, fun g' _ _ _ hv' => set_other (fun e => hv' (by rw [hv, e]; rfl)), fun j _ _ => World.cell?_of_block hN, fun j => World.frozen?_of_block hN⟩⟩
  · have hls := h.ls
    rw [hv] at hls ⊢
    rw [List.length_set, ← bkCs_set l n k p hn]
    exact own_setAt hls _ _
  · rcases List.mem_or_eq_of_mem_set hx with q | q
    · exact h.ok x q
    · rw [q]; exact h.ok k (List.mem_of_getElem? hn)
  · rw [bkW_set l n k p hn] at e
    rw [List.length_set] at hi
    exact h.one i j hi e
  · rcases h.mp with ⟨q, e⟩ | ⟨b, D, q, hb, hm, ht⟩
    · rw [e] at hn; cases hn
    · refine .inr ⟨b, D, q, hb, ?_, by rw [bkW_set l n k p hn]; exact ht⟩
      rw [List.length_set]
      have hne : b ≠ g := fun e => by
        obtain ⟨es, cl, hh⟩ := map_of hm
        obtain ⟨_, c', t', fr, hc⟩ := ownsRow_cells h.ls g (by rw [hv]; rfl)
        rw [e, hc] at hh
        cases hh
      exact map_keep hm (set_other hne)
set_option maxRecDepth 100000 in
theorem map_eqn (b : Nat) (w : World) : (binOp .eql 102 (.map (some b)) (.map none)).run Tryz.prog w = .ok (.bool false) w := by
  kernel_rfl
set_option maxRecDepth 100000 in
theorem map_eq0 (w : World) : (binOp .eql 102 (.map none) (.map none)).run Tryz.prog w = .ok (.bool true) w := by
  kernel_rfl
theorem BoAt.up {B N o : Nat} {l : List KwN} {mv v : Value} {w w' : World} (h : BoAt B N o l mv v w) (hb : Below w.heap.size w w') : BoAt B N o l mv v w' := by
  have hN := hb.block N (block_lt_of_cell h.c0)
  refine ⟨(World.cell?_of_block hN).trans h.c0, (World.cell?_of_block hN).trans h.c1, h.nv, own_grow h.ls hb, h.ok, h.one, ?_⟩
  rcases h.mp with q | ⟨b, D, q, hB, hm, ht⟩
  · exact .inl q
  · exact .inr ⟨b, D, q, hB, map_keep hm (hb.block b hm.lt), ht⟩
theorem BFr.grow {B N o : Nat} {mv v : Value} {w w1 w2 : World} (k : BFr B N o mv v w w1) (hN : N < w1.heap.size) (hB : B ≤ w1.heap.size) (hb : Below w1.heap.size w1 w2) : BFr B N o mv v w w2 :=
  ⟨k.below.trans (hb.mono hB), fun g hg h1 h2 h3 => (hb.block g (Nat.lt_of_lt_of_le hg k.below.size)).trans (k.other g hg h1 h2 h3), fun j h1 h2 => (World.cell?_of_block (hb.block N hN)).trans (k.cells j h1 h2), fun j => (World.frozen?_of_block (hb.block N hN)).trans (k.fz j)⟩
set_option maxRecDepth 100000 in
set_option maxHeartbeats 2000000 in
theorem lay_yes (B N o : Nat) (l : List KwN) (mv v : Value) (n : Nat) (k : KwN) (p : ByteArray) (w : World) (h : BoAt B N o l mv v w) (hB : B ≤ w.heap.size) (hn : l[n]? = some k) (hl : l.length ≤ 1000000000000) :
    Calls Tryz.prog 184 #[.pointer (some ⟨N, o, none⟩), .agg (S (wdZ k.1)), .string p] w fun e' w' => e' = .returned (.tuple #[]) ∧ BoAt B N o (l.set n (k.1, lst p)) mv v w' ∧ BFr B N o mv v w w' := by
  have hw := h.ok k (List.mem_of_getElem? hn)
  have hbn : (bkW l)[n]? = some k.1 := by unfold bkW; rw [List.getElem?_map, hn]; rfl
  have HH := hide h; have HHn := hide hn
  rcases h.mp with ⟨_, rfl⟩ | ⟨b, D, rfl, _, hown, htok⟩
  · cases hn
  have c0 := h.c0
  have c1 := h.c1
  have hnl : n < l.length := (List.getElem?_eq_some_iff.1 hn).1
  obtain ⟨g, c, hv, hgB, hgl⟩ := h.ls.form (by omega)
  have HV := hide hv
  rw [hv] at c1
  have hls := h.ls
  rw [hv] at hls
  obtain ⟨_, d1⟩ := bk_cells hls n k hn
  have f1 : w.frozen? ⟨g, n * 2 + 1, none⟩ = false := hls.frozenAt _
  obtain ⟨hh1, hh2⟩ := htok k.1 hw
  have hat := hh2 n hbn (h.uniq hbn)
  have hin : k.1 ∈ bkW l := List.mem_of_getElem? hbn
  have hrun : (Instr.lookup 102 (.map (some b)) (.agg (S (wdZ k.1))) true).run Tryz.prog ((w.alloc (.cells (S (wdZ k.1)) 131)).drew) = .ok (.tuple #[.int .i64 (n : Int), .bool true]) ((w.alloc (.cells (S (wdZ k.1)) 131)).drew) := by
    obtain ⟨x, ps', hrun, hx⟩ := ((hown.alloc (.cells (S (wdZ k.1)) 131)).drew).look_ok lawW Tryz.underlying102 (zeroI _) (plainElem_int (H := Unit) Tryz.underlying3 (a := 0) (by decide)) (keyOfWs hw)
    rw [hh1.2 hin] at hrun
    obtain ⟨a, rfl, ha, _⟩ := plainElem_int_inv Tryz.underlying3 hx
    rw [hat] at ha
    cases ha
    exact hrun
  have HE : Hid (∀ ob W, W = ((w.setCell ⟨g, n * 2 + 1, none⟩ (.string p)).alloc ob).drew → BoAt B N o (l.set n (k.1, lst p)) (.map (some b)) v W ∧ BFr B N o (.map (some b)) v w W) := fun ob W e => by
    have q := HH.out.setPlan HHn.out HV.out (lst p)
    rw [bya_lst] at q
    have hb0 : Below (w.setCell ⟨g, n * 2 + 1, none⟩ (.string p)).heap.size (w.setCell ⟨g, n * 2 + 1, none⟩ (.string p)) ((w.setCell ⟨g, n * 2 + 1, none⟩ (.string p)).alloc ob).drew := ((Below.refl _ _).alloc (Nat.le_refl _) ob).drew
    rw [e]
    exact ⟨q.1.up hb0, q.2.grow (by rw [set_size]; exact block_lt_of_cell HH.out.c0) (by rw [set_size]; exact hB) hb0⟩
  have hNl : N < w.heap.size := block_lt_of_cell c0
  have hz := wdZ_len hw.1
  have hn0 : ¬ (n : Int) < 0 := by omega
  have hn1 : (n : Int) < (l.length : Int) := by omega
  have hgN : ¬ g = w.heap.size := by omega
  clear h hw hbn hown htok hh1 hh2 hat hin hls hv hn hB
  generalize hQ : wdZ k.1 = z at *
  generalize bya k.2 = P at *
  generalize hL : l.length = L at *
  clear hQ hL
  match z, hz with
  | [a0, a1, a2, a3, a4, a5, a6, a7, a8], _ =>
    simp only [S, List.map_cons, List.map_nil] at hrun ⊢
    have me := map_eqn b
    go_enter Tryz.func184, Tryz.ntmps184
    go_wp2_with fail
    refine still_all (by kernel_rfl) (by kernel_rfl) ?_
    repeat still_step
    refine wpStill_nil ?_
    go_wp2_with fail
    go_end0
    exact ⟨rfl, HE.out _ _ rfl⟩
end Go.Proofs.YtmmflekajbeamabGreatDoor

namespace Go.Proofs.YtmmflekajbeamabGreatDoor
open Go.RowKit Go.Maps Go.WideMaps

theorem len9 (z : List Int) (h : z.length = 9) : ∃ a0 a1 a2 a3 a4 a5 a6 a7 a8, z = [a0, a1, a2, a3, a4, a5, a6, a7, a8] := by
  match z, h with
  | [a0, a1, a2, a3, a4, a5, a6, a7, a8], _ => exact ⟨a0, a1, a2, a3, a4, a5, a6, a7, a8, rfl⟩
/-- The blocks that a book owns. -/
def bkHas (mv v : Value) (g : Nat) : Prop := mv = .map (some g) ∨ v.ownBlock = some g
theorem BoAt.lt {B N o : Nat} {l : List KwN} {mv v : Value} {w : World} (h : BoAt B N o l mv v w) : N < w.heap.size := block_lt_of_cell h.c0
theorem BoAt.has {B N o : Nat} {l : List KwN} {mv v : Value} {w : World} (h : BoAt B N o l mv v w) {g : Nat} (hg : bkHas mv v g) : B ≤ g ∧ g < w.heap.size ∧ g ≠ N := by
  rcases hg with hg | hg
  · rcases h.mp with ⟨q, _⟩ | ⟨b, D, q, hb, hm, _⟩
    · rw [q] at hg; cases hg
    · rw [q] at hg
      cases hg
      refine ⟨hb, hm.lt, fun e => ?_⟩
      obtain ⟨es, cl, hh⟩ := map_of hm
      obtain ⟨c, t, fr, hc⟩ := cells_of_cell h.c0
      rw [← e, hh] at hc; cases hc
  · have := row_lt h.ls g hg
    exact ⟨this.1, this.2, fun e => h.nv (e ▸ hg)⟩
theorem BoAt.apart {B N o : Nat} {l : List KwN} {b : Nat} {v : Value} {w : World} (h : BoAt B N o l (.map (some b)) v w) : v.ownBlock ≠ some b := fun e => by
  rcases h.mp with ⟨q, _⟩ | ⟨b', D, q, hb, hm, _⟩
  · cases q
  · cases q
    obtain ⟨es, cl, hh⟩ := map_of hm
    obtain ⟨_, c, t, fr, hc⟩ := ownsRow_cells h.ls b e
    rw [hh] at hc; cases hc
theorem BoAt.kept {B N o : Nat} {l : List KwN} {mv v : Value} {w w' : World} (h : BoAt B N o l mv v w) (hN : ∀ j, j = o ∨ j = o + 1 → w'.cell? ⟨N, j, none⟩ = w.cell? ⟨N, j, none⟩) (hk : ∀ g, bkHas mv v g → w'.heap[g]? = w.heap[g]?) : BoAt B N o l mv v w' := by
  refine ⟨(hN o (.inl rfl)).trans h.c0, (hN (o + 1) (.inr rfl)).trans h.c1, h.nv, ownsRow_keep h.ls (fun g hg => hk g (.inr hg)), h.ok, h.one, ?_⟩
  rcases h.mp with q | ⟨b, D, q, hB, hm, ht⟩
  · exact .inl q
  · exact .inr ⟨b, D, q, hB, map_keep hm (hk b (.inl q)), ht⟩
theorem BFr.trans {B N o : Nat} {mv v mv1 v1 : Value} {w w1 w2 : World} (h : BFr B N o mv v w w1) (own : ∀ g, bkHas mv1 v1 g → bkHas mv v g ∨ w.heap.size ≤ g) (k : BFr B N o mv1 v1 w1 w2) : BFr B N o mv v w w2 := by
  refine ⟨h.below.trans k.below, fun g hg h1 h2 h3 => ?_, fun j h1 h2 => (k.cells j h1 h2).trans (h.cells j h1 h2), fun j => (k.fz j).trans (h.fz j)⟩
  have hn : ¬ bkHas mv1 v1 g := fun q => by
    rcases own g q with (e | e) | e
    · exact h2 g e rfl
    · exact h3 e
    · omega
  exact (k.other g (Nat.lt_of_lt_of_le hg h.below.size) h1 (fun b e q => hn (.inl (by rw [e, q]))) (fun e => hn (.inr e))).trans (h.other g hg h1 h2 h3)
theorem BFr.above {B N o : Nat} {mv v : Value} {w w' : World} (hB : B ≤ w.heap.size) (hN : N < w.heap.size) (h : Below w.heap.size w w') : BFr B N o mv v w w' :=
  ⟨h.mono hB, fun g hg _ _ _ => h.block g hg, fun _ _ _ => World.cell?_of_block (h.block N hN), fun _ => World.frozen?_of_block (h.block N hN)⟩
/-- A map made for a book that has none. -/
theorem BoAt.made {B N o : Nat} {v : Value} {w w0 : World} (h : BoAt B N o [] (.map none) v w) (hBN : B ≤ N) (hb : Below w.heap.size w w0) (W : World) (hW : W = (w0.alloc (.map #[] 0)).setCell ⟨N, o, none⟩ (.map (some w0.heap.size))) :
    BoAt B N o [] (.map (some w0.heap.size)) v W ∧ BFr B N o (.map none) v w W := by
  have hN := h.lt
  have hB : B ≤ w.heap.size := Nat.le_trans hBN (Nat.le_of_lt hN)
  have hN0 : N < w0.heap.size := Nat.lt_of_lt_of_le hN hb.size
  have e0 : ∀ g, g < w0.heap.size → g ≠ N → W.heap[g]? = w0.heap[g]? := fun g hg hn => by rw [hW]; exact (set_other hn).trans (Below.heap_alloc w0 _ g hg)
  have eN : ∀ j, j ≠ o → W.cell? ⟨N, j, none⟩ = w.cell? ⟨N, j, none⟩ := fun j hj => by rw [hW, cell_off (fun e => hj e.symm)]; exact World.cell?_of_block ((Below.heap_alloc w0 _ N hN0).trans (hb.block N hN))
  have eF : ∀ j, W.frozen? ⟨N, j, none⟩ = w.frozen? ⟨N, j, none⟩ := fun j => by rw [hW, World.frozen?_setCell]; exact World.frozen?_of_block ((Below.heap_alloc w0 _ N hN0).trans (hb.block N hN))
  have hbel : Below w.heap.size w (w0.alloc (.map #[] 0)) := hb.alloc hb.size _
  refine ⟨⟨?_, (eN (o + 1) (by omega)).trans h.c1, h.nv, ?_, h.ok, h.one, .inr ⟨w0.heap.size, .map [], rfl, Nat.le_trans hB hb.size, ?_, fun e _ => ⟨⟨fun q => (by cases q), fun q => (by cases q)⟩, fun n hn => (by simp [bkW] at hn)⟩⟩⟩, ⟨?_, fun g hg h1 _ h3 => (e0 g (Nat.lt_of_lt_of_le hg hb.size) h1).trans (hb.block g hg), fun j h1 _ => eN j h1, eF⟩⟩
  · rw [hW]
    exact World.cell?_setCell_same _ _ _ ((World.cell?_of_block ((Below.heap_alloc w0 _ N hN0).trans (hb.block N hN))).trans h.c0)
  · exact ownsRow_keep h.ls (fun g hg => (e0 g (Nat.lt_of_lt_of_le (row_lt h.ls g hg).2 hb.size) (fun e => h.nv (e ▸ hg))).trans (hb.block g (row_lt h.ls g hg).2))
  · rw [hW]
    exact map_keep (World.ownsMap_made w0 _ _ _) (set_other (by omega))
  · rw [hW]
    exact (hbel.mono hB).setCell (p := ⟨N, o, none⟩) hBN _
/-- Behind a key more in the map, and an append to the list. -/
theorem lay_end {B N o : Nat} {l : List KwN} {b : Nat} {v : Value} {w w0 w3 w5 w4 : World} {ws : List Nat} {D' : DataW Unit} (h : BoAt B N o l (.map (some b)) v w) (hBN : B ≤ N) (hws : wOK ws) (hn : ws ∉ bkW l) (hb0 : Below w.heap.size w w0) (hg3 : w0.grownBy w3 (some b)) (ho3 : w3.ownsMap Tryz.prog 131 (plainElem Tryz.prog 3) b (l.length + 1) D') (hk3 : BoOK D' (bkW l ++ [ws]))
    (hb5 : Below w3.heap.size w3 w5) (g cap : Nat) (ho : w4.ownsRow B 71 2 (.slice (some ⟨g, 0, none⟩) (l.length + 1) cap) (l.length + 1) (bkCs l ++ [.string (bya (wdsT ws)), .string (bya [])])) (hgr : w5.grownBy w4 v.ownBlock) (ha : v.ownBlock = some g ∨ w.heap.size ≤ g) (W : World) (hW : W = w4.setCell ⟨N, o + 1, none⟩ (.slice (some ⟨g, 0, none⟩) (l.length + 1) cap)) :
    BoAt B N o (l ++ [(ws, [])]) (.map (some b)) (.slice (some ⟨g, 0, none⟩) (l.length + 1) cap) W ∧ BFr B N o (.map (some b)) v w W := by
  have hN := h.lt
  have hBw : B ≤ w.heap.size := Nat.le_trans hBN (Nat.le_of_lt hN)
  have hbh := h.has (g := b) (.inl rfl)
  have hbv := h.apart
  have hz03 : w.heap.size ≤ w3.heap.size := Nat.le_trans hb0.size hg3.size
  have hk : ∀ k, k < w.heap.size → k ≠ b → v.ownBlock ≠ some k → w4.heap[k]? = w.heap[k]? := fun k h1 h2 h3 =>
    (hgr.block k (Nat.lt_of_lt_of_le (Nat.lt_of_lt_of_le h1 hz03) hb5.size) (fun e => h3 e.symm)).trans ((hb5.block k (Nat.lt_of_lt_of_le h1 hz03)).trans ((hg3.block k (Nat.lt_of_lt_of_le h1 hb0.size) (fun e => h2 (Option.some.inj e))).trans (hb0.block k h1)))
  have hN4 : w4.heap[N]? = w.heap[N]? := hk N hN (fun e => hbh.2.2 e.symm) h.nv
  have hgN : g ≠ N := by
    rcases ha with ha | ha
    · exact fun e => h.nv (e ▸ ha)
    · omega
  have hWo : ∀ k, k ≠ N → W.heap[k]? = w4.heap[k]? := fun k hk => by rw [hW]; exact set_other hk
  have hWc : ∀ j, j ≠ o + 1 → W.cell? ⟨N, j, none⟩ = w.cell? ⟨N, j, none⟩ := fun j hj => by rw [hW, cell_off (fun e => hj e.symm)]; exact World.cell?_of_block hN4
  refine ⟨⟨(hWc o (by omega)).trans h.c0, ?_, (fun e => hgN (Option.some.inj e)), ?_, fun x hx => ?_, fun i j hi e => ?_, .inr ⟨b, D', rfl, hbh.1, ?_, ?_⟩⟩, ⟨?_, fun k h1 h2 h3 h4 => (hWo k h2).trans (hk k h1 (h3 b rfl) h4), fun j _ h2 => hWc j h2, fun j => by rw [hW, World.frozen?_setCell]; exact World.frozen?_of_block hN4⟩⟩
  · rw [hW]
    exact World.cell?_setCell_same _ _ _ ((World.cell?_of_block hN4).trans h.c1)
  · have e1 : bkCs (l ++ [(ws, [])]) = bkCs l ++ [.string (bya (wdsT ws)), .string (bya [])] := by unfold bkCs; rw [List.map_append]; exact knCs_snoc _ _
    rw [e1, List.length_append, List.length_singleton]
    exact ownsRow_keep ho (fun k hk => by cases hk; exact hWo g hgN)
  · rcases List.mem_append.1 hx with q | q
    · exact h.ok x q
    · simp at q; rw [q]; exact hws
  · have ew : bkW (l ++ [(ws, [])]) = bkW l ++ [ws] := by simp [bkW]
    rw [ew] at e
    have hlw : (bkW l).length = l.length := by simp [bkW]
    rw [List.length_append, List.length_singleton] at hi
    have key : ∀ m, m ≤ l.length → (bkW l ++ [ws])[m]? = some ws → m = l.length := fun m hm q => by
      rcases Nat.lt_or_ge m l.length with hl | hl
      · rw [List.getElem?_append_left (by omega)] at q
        exact absurd (List.mem_of_getElem? q) hn
      · omega
    have hlast : (bkW l ++ [ws])[l.length]? = some ws := by rw [← hlw, List.getElem?_append_right (Nat.le_refl _), Nat.sub_self]; rfl
    have hj : j < l.length + 1 := by
      rcases Nat.lt_or_ge j (l.length + 1) with q | q
      · exact q
      · have e2 : (bkW l ++ [ws])[j]? = none := List.getElem?_eq_none (by rw [List.length_append, hlw, List.length_singleton]; exact q)
        have e3 : i < (bkW l ++ [ws]).length := by rw [List.length_append, hlw, List.length_singleton]; exact hi
        rw [e2, List.getElem?_eq_getElem e3] at e
        cases e
    rcases Nat.lt_or_ge i l.length with q1 | q1 <;> rcases Nat.lt_or_ge j l.length with q2 | q2
    · rw [List.getElem?_append_left (by omega), List.getElem?_append_left (by omega)] at e
      exact h.one i j q1 e
    · have ej : j = l.length := by omega
      rw [ej, hlast] at e
      have := key i (by omega) e
      omega
    · have ei : i = l.length := by omega
      rw [ei, hlast] at e
      have := key j (by omega) e.symm
      omega
    · omega
  · rw [List.length_append, List.length_singleton]
    exact map_keep ho3 ((hWo b hbh.2.2).trans ((hgr.block b (Nat.lt_of_lt_of_le ho3.lt hb5.size) (fun e => hbv e.symm)).trans (hb5.block b ho3.lt)))
  · have ew : bkW (l ++ [(ws, [])]) = bkW l ++ [ws] := by simp [bkW]
    rw [ew]; exact hk3
  · rw [hW]
    refine ((((hb0.mono hBw).trans ?_).trans (hb5.mono (Nat.le_trans hBw hz03))).grown hgr (Nat.le_trans hBw (Nat.le_trans hz03 hb5.size)) (fun k hk => (row_lt h.ls k hk).1)).setCell (p := ⟨N, o + 1, none⟩) hBN _
    exact (Below.refl _ _).grown hg3 (Nat.le_trans hBw hb0.size) (fun k hk => by cases hk; exact hbh.1)
theorem World.setCell_alloc_swap (w : World) (a : Addr) (v : Value) (o : Obj) (h : a.block < w.heap.size) : (w.setCell a v).alloc o = (w.alloc o).setCell a v := by
  unfold World.setCell World.alloc
  congr 1
  apply Array.ext_getElem?
  intro k
  simp only [Array.getElem?_modify, Array.getElem?_push, Array.size_modify]
  by_cases hk : a.block = k
  · subst hk
    simp [Nat.ne_of_lt h]
  · simp [hk]
end Go.Proofs.YtmmflekajbeamabGreatDoor
