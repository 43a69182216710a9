/-
  The law's scans; THE LAW Frames, walked.
  THE LAW Frames, walked: it answers true, for every kind and payload and every text of a megabyte.
  The table of instructions, as the card's condition tells it, is the table that the walks read; and the program's own start-up meets that condition. Shared by the cards.
-/
import Derived.Test.YtmmflekajbeamaaDoorM29
import Derived.Test.YtmmflekajbeamaaDoorM27
import Derived.Test.YtmmflekajbeamaaDoorM03
import Derived.Test.YtmmflekajbeamaaDoorCards
import Derived.Test.YtmmflekajbeamaaDoorTie
import Derived.ProofKit
import Derived.LaidMore
import Derived.OpenShut
import Derived.Stop.Joined
import Derived.Deep.Strs
import Derived.SevenTiedAt
import Derived.ChangeMaps5
namespace Go.Proofs.YtmmflekajbeamaaDoor
open Go.RowKit

theorem wpList_storeAA {ops : Array Oper} {rest : List Oper} {o : Oper} {a : Act} {w : World} {Q : Exit → Act → World → Prop} (hgd : o.guard = none) (x y : Operand) (ho : o.op = .store 74 x y)
    (c : Array Value) (hx : a.eval x = .pointer (some ⟨w.heap.size, 0, none⟩)) (hy : a.eval y = .agg c) (hc : c.size = 4) (h1 : c.all (·.oneCell') = true)
    (h : wpList Tryd.prog ops Q rest (a.put o.dst undef) (w.alloc (.cells c 74))) : wpList Tryd.prog ops Q (o :: rest) a (w.alloc (.cells (arV 0 false 0 (.slice none 0 0)) 74)) := by
  refine wpList_store_row hgd 74 x y ho w.heap.size c hx hy 74 _ (_root_.Go.heap_alloc_new w _) (by rw [hc]; exact size74) (by rw [hc]; rfl) h1 ?_
  rw [setRow_alloc_any]
  exact h
theorem bookK_new (w : World) : BookK w.heap.size [] (.slice none 0 0) (w.alloc (.cells #[.slice none 0 0, .slice none 0 0, .slice none 0 0] 27)) := by
  refine ⟨?_, fun j h1 h2 => ?_, fun j => ?_, fun cur hc => ?_, World.ownsRow_nil _ _ _ _, fun i v hi => by simp at hi⟩
  · rw [World.cell?_alloc_at (hn := rfl)]; rfl
  · rw [World.cell?_alloc_at (hn := rfl)]
    have : j = 0 ∨ j = 1 := by omega
    rcases this with rfl | rfl <;> rfl
  · rw [World.frozen?_alloc_at (hn := rfl)]
  · have := _root_.Go.heap_alloc_new w (.cells #[.slice none 0 0, .slice none 0 0, .slice none 0 0] 27)
    rw [this] at hc
    cases hc

set_option maxRecDepth 100000 in
set_option maxHeartbeats 4000000 in
theorem scans_any (s : ByteArray) (N q : Nat) (vs : List Value) (vi : Value) (w : World) (ht : Tab w) (h : BookK N vs vi w) (hq : vs.length = 4 * q) (hq2 : q ≤ 100) (hs : s.size ≤ 1048576) :
    Calls Tryd.prog 34 #[.pointer (some ⟨N, 0, none⟩), .string s] w fun e' w' => e' = .returned (.bool true) ∧ (∃ vs' vi', BookK N vs' vi' w' ∧ vs'.length = 4 * (q + 1)) ∧ Below N w w' := by
  have zz := zero74
  have HC := hide (cribScan_any s w ht hs)
  have HD := hide (fun w' => refScan_any s w' hs)
  have hlen := scan_len s
  have HH := hide h
  have HQ := hide hq
  clear h hq ht
  go_enter Tryd.func34, Tryd.ntmps34
  go_wp2_with fail
  refine (unhide HC).mono ?_
  rintro e w1 ⟨hb1, v1, rfl, ho1⟩
  have hone1 := arV_one (scan (lst s)).gen (scan (lst s)).whole (scan (lst s)).good v1 (own_one ho1)
  obtain ⟨W1, hW1⟩ : ∃ W1, W1 = w1.alloc (.cells (arV (scan (lst s)).gen (scan (lst s)).whole (scan (lst s)).good v1) 74) := ⟨_, rfl⟩
  have HW1 := hide hW1
  have hbA : Below w.heap.size w W1 := by rw [hW1]; exact hb1.alloc hb1.size _
  have HBA := hide hbA
  have r1 : W1.heap[w1.heap.size]? = some (.cells (arV (scan (lst s)).gen (scan (lst s)).whole (scan (lst s)).good v1) 74 (0, 0)) := by rw [hW1, _root_.Go.heap_alloc_new]
  have HR1 := hide r1
  have HO1 : Hid (W1.ownsRow w.heap.size 72 2 v1 (scan (lst s)).list.length (knCs (scan (lst s)).list)) := by unfold Hid; rw [hW1]; exact ho1.alloc _
  have hz1 := hb1.size
  have hzW : W1.heap.size = w1.heap.size + 1 := by rw [hW1, size_alloc1]
  clear hb1 ho1 hbA r1 hW1 HC
  have HAr : Hid ((arV (scan (lst s)).gen (scan (lst s)).whole (scan (lst s)).good v1).size = 4) := rfl
  go_wp2_with (refine wpList_storeAA rfl _ _ rfl (arV (scan (lst s)).gen (scan (lst s)).whole (scan (lst s)).good v1) rfl rfl rfl hone1 ?_)
  rw [← HW1.out]
  refine (unhide HD _).mono ?_
  rintro e w2 ⟨hb2, v2, rfl, ho2⟩
  have hone2 := arV_one (scan (lst s)).gen (scan (lst s)).whole (scan (lst s)).good v2 (own_one ho2)
  obtain ⟨W2, hW2⟩ : ∃ W2, W2 = w2.alloc (.cells (arV (scan (lst s)).gen (scan (lst s)).whole (scan (lst s)).good v2) 74) := ⟨_, rfl⟩
  have HW2 := hide hW2
  have hz2 := hb2.size
  have hbB : Below W1.heap.size W1 W2 := by rw [hW2]; exact hb2.alloc hz2 _
  have r2 : W2.heap[w2.heap.size]? = some (.cells (arV (scan (lst s)).gen (scan (lst s)).whole (scan (lst s)).good v2) 74 (0, 0)) := by rw [hW2, _root_.Go.heap_alloc_new]
  have r1 : W2.heap[w1.heap.size]? = some (.cells (arV (scan (lst s)).gen (scan (lst s)).whole (scan (lst s)).good v1) 74 (0, 0)) := (hbB.block _ (by omega)).trans HR1.out
  have HR1' := hide r1; have HR2 := hide r2
  have HO1' : Hid (W2.ownsRow w.heap.size 72 2 v1 (scan (lst s)).list.length (knCs (scan (lst s)).list)) := own_grow HO1.out hbB
  have HO2 : Hid (W2.ownsRow W1.heap.size 72 2 v2 (scan (lst s)).list.length (knCs (scan (lst s)).list)) := by unfold Hid; rw [hW2]; exact ho2.alloc _
  have HBB : Hid (Below w.heap.size w W2) := HBA.out.trans (hbB.mono (by omega))
  have hzW2 : W2.heap.size = w2.heap.size + 1 := by rw [hW2, size_alloc1]
  have x0 : W2.cell? ⟨w1.heap.size, 3, none⟩ = some v1 := cell_row r1 3
  have y0 : W2.cell? ⟨w2.heap.size, 3, none⟩ = some v2 := cell_row r2 3
  have HSm := hide (samePlans_yes v1 v2 w.heap.size W1.heap.size (scan (lst s)).list W2 HO1'.out HO2.out (by omega))
  obtain ⟨va, vc, rfl⟩ := owns_len HO1.out
  obtain ⟨ua, uc, rfl⟩ := owns_len HO2.out
  clear hb2 ho2 hbB r1 r2 hW2 HD
  generalize scan (lst s) = a at *
  obtain ⟨gen, whole, good, list⟩ := a
  simp only at *
  rw [HW2.out] at x0 y0
  go_wp2_with (refine wpList_storeAA rfl _ _ rfl (arV gen whole good _) rfl rfl rfl hone2 ?_)
  rw [← HW2.out]
  refine (unhide HSm).mono ?_
  rintro e w3 ⟨rfl, hb3⟩
  have hz3 := hb3.size
  have R1 := (hb3.block w1.heap.size (by omega)).trans HR1'.out
  have R2 := (hb3.block w2.heap.size (by omega)).trans HR2.out
  have a0 : w3.cell? ⟨w1.heap.size, 0, none⟩ = some (.int .i64 (gen : Int)) := cell_row R1 0
  have a1 : w3.cell? ⟨w1.heap.size, 1, none⟩ = some (.bool whole) := cell_row R1 1
  have a2 : w3.cell? ⟨w1.heap.size, 2, none⟩ = some (.int .i64 (good : Int)) := cell_row R1 2
  have a3 : w3.cell? ⟨w1.heap.size, 3, none⟩ = some (.slice va list.length vc) := cell_row R1 3
  have b0 : w3.cell? ⟨w2.heap.size, 0, none⟩ = some (.int .i64 (gen : Int)) := cell_row R2 0
  have b1 : w3.cell? ⟨w2.heap.size, 1, none⟩ = some (.bool whole) := cell_row R2 1
  have b2 : w3.cell? ⟨w2.heap.size, 2, none⟩ = some (.int .i64 (good : Int)) := cell_row R2 2
  have HBw : Hid (Below w.heap.size w w3) := HBB.out.trans (hb3.mono (by omega))
  have HKp := hide (keepPlans_any N q vs vi w w3 HH.out HBw.out HQ.out hq2 (.slice va list.length vc) list (own_grow HO1'.out hb3) (by omega))
  clear hb3 HSm R1 R2 x0 y0
  go_wp2_with fail
  refine (unhide HKp).mono ?_
  rintro e w4 ⟨rfl, hbk, hbelow⟩
  have HBk := hide hbk; have HBe := hide hbelow
  clear hbk hbelow HKp
  go_wp2_with fail
  go_ret
  exact ⟨ret_bool (by simp), HBk.out, HBe.out⟩
end Go.Proofs.YtmmflekajbeamaaDoor

namespace Go.Proofs.YtmmflekajbeamaaDoor
open Go.RowKit

set_option maxRecDepth 100000 in
set_option maxHeartbeats 2000000 in
theorem frames_any (kind : Int) (p s : ByteArray) (w : World) (ht : Tab w) (hp : p.size ≤ maxLen) (hs : s.size ≤ 1048576) :
    Calls Tryd.prog 10 #[.int .i64 kind, .string p, .string s] w fun e' w' => e' = .returned (.bool true) ∧ Below w.heap.size w w' := by
  have HT := hide ht
  have hpos := ht.pos
  clear ht
  obtain ⟨W, hW⟩ : ∃ W, W = w.alloc (.cells #[.slice none 0 0, .slice none 0 0, .slice none 0 0] 27) := ⟨_, rfl⟩
  have HW := hide hW
  have hbW : Below w.heap.size w W := by rw [hW]; exact (Below.refl _ _).alloc (Nat.le_refl _) _
  have HK0 : Hid (BookK w.heap.size [] (.slice none 0 0) W) := by unfold Hid; rw [hW]; exact bookK_new w
  have HBW := hide hbW
  have H1 := hide (seals_any kind p W hp)
  have hzW : W.heap.size = w.heap.size + 1 := by rw [hW, size_alloc1]
  clear hbW hW
  go_enter Tryd.func10, Tryd.ntmps10
  go_wp2_with fail
  rw [← HW.out]
  refine (unhide H1).mono ?_
  rintro e w1 ⟨rfl, hb1⟩
  have HB1 : Hid (Below w.heap.size w w1) := HBW.out.trans (hb1.mono (by omega))
  have HK1 := hide (HK0.out.above hb1)
  have hz1 := hb1.size
  have H2 := hide (scans_any s w.heap.size 0 [] _ w1 (HT.out.below hpos HB1.out) HK1.out rfl (by decide) hs)
  clear hb1 H1
  go_wp2_with fail
  refine (unhide H2).mono ?_
  rintro e w2 ⟨rfl, ⟨vs1, vi1, hk1, hl1⟩, hb2⟩
  have HB2 : Hid (Below w.heap.size w w2) := HB1.out.trans hb2
  have H3 := hide (scans_any s w.heap.size 1 vs1 vi1 w2 (HT.out.below hpos HB2.out) hk1 hl1 (by decide) hs)
  clear hk1 hl1 hb2 H2
  go_wp2_with fail
  refine (unhide H3).mono ?_
  rintro e w3 ⟨rfl, ⟨vs2, vi2, hk2, hl2⟩, hb3⟩
  have HB3 : Hid (Below w.heap.size w w3) := HB2.out.trans hb3
  have H4 := hide (looks_plans w.heap.size vs2 vi2 w3 hk2 (by omega))
  have hz3 := HB3.out.size
  clear hk2 hl2 hb3 H3
  go_wp2_with fail
  refine (unhide H4).mono ?_
  rintro e w4 ⟨rfl, hb4⟩
  have HB4 : Hid (Below w.heap.size w w4) := HB3.out.trans (hb4.mono (by omega))
  clear hb4 H4
  go_wp2_with fail
  go_ret
  exact ⟨rfl, HB4.out⟩
end Go.Proofs.YtmmflekajbeamaaDoor

namespace Go.Proofs.YtmmflekajbeamaaDoor
open Go.ChangeShapes Go.WideShapes Go.ChangeAt Go.WideMaps Go.WideElems Go.RowKit

theorem own : ownKnob Tryd.prog.godebug = none := by kernel_rfl
theorem laidOut : laidOutB Tryd.prog = true := by kernel_rfl
theorem gRows : Tryd.prog.globalNamed "crib/code.rows" = some 0 := by kernel_rfl
theorem tRows : (Tryd.prog.globals[0]?).map (·.type) = some 220 := by kernel_rfl
theorem c114 : Tryd.prog.cellsOf 198 = 3 := by kernel_rfl
theorem c132 : Tryd.prog.cellsOf 220 = 36 := by kernel_rfl
theorem c9 : Tryd.prog.cellsOf 9 = 1 := by kernel_rfl
theorem cells3t : Tryd.prog.cellsOf 3 = 1 := by kernel_rfl

set_option maxRecDepth 100000 in
/-- A row of the table, read: its three cells. -/
theorem row_cells {H : Type} {enc : TypeId × Value → H} {W : World} {base : Nat} {spare : Nat → Bool} {held : Bool} {m : Nat} {cs : List Value} {x : DataW H × List MemPlace} {a b : List UInt8} {n : Int}
    (h : DataW.trod enc Tryd.prog W base spare held m 198 cs = some x) (hx : x.1 = .agg [.lit (.string a), .lit (.int .i64 n), .lit (.string b)]) : cs = [.string ⟨a.toArray⟩, .int .i64 n, .string ⟨b.toArray⟩] := by
  obtain ⟨y0, y1, y2, k, rfl, hl, h0, h1, h2⟩ := Go.Deep.trod_struct3 Tryd.underlying198 h
  rw [c114] at hl
  match cs, hl with
  | [v0, v1, v2], _ =>
    obtain ⟨s0, e0, f0, _⟩ := DataW.trod_string Tryd.underlying9 h0
    obtain ⟨k1, e1, f1, _⟩ := DataW.trod_int Tryd.underlying3 h1
    obtain ⟨s2, e2, f2, _⟩ := DataW.trod_string Tryd.underlying9 h2
    subst f0 f1 f2
    simp [c9, cells3t] at e0 e1 e2
    simp at hx
    obtain ⟨rfl, rfl, rfl⟩ := hx
    subst e0 e1 e2
    rfl

theorem chunk {cs : List Value} {rest : List Value} {i : Nat} (a b c : Value) (h : (cs.drop i).take 3 = [a, b, c]) (hr : cs.drop (i + 3) = rest) : cs.drop i = a :: b :: c :: rest := by
  have := List.take_append_drop 3 (cs.drop i)
  rw [h, List.drop_drop, hr] at this
  exact this.symm

set_option maxRecDepth 100000 in
theorem of_laid {W : World} (h : laidMetH Tryd.prog [("crib/code.rows", Rows.laid_crib_code_rows)] W) : Tab W := by
  rw [MakeChecks.laidMetH_plain _ _ _ (by kernel_rfl)] at h
  obtain ⟨ps, ⟨g0, t0, cs0, f0, p0, q0, hg0, ht0, hv0, hd0, _⟩, _, _⟩ := h
  obtain rfl := Option.some.inj (gRows.symm.trans hg0)
  obtain rfl := Option.some.inj (tRows.symm.trans ht0)
  obtain ⟨xs, m1, rfl, hx1, hlen, hn, hel⟩ := DataW.trod_array Tryd.underlying220 hd0
  rw [c114] at hel
  rw [c132] at hlen
  simp only [Prod.mk.injEq] at hx1
  have hx := hx1.1
  simp only [Rows.laid_crib_code_rows, DataW.agg.injEq] at hx
  match xs, hn, hx, hel with
  | [x0, x1, x2, x3, x4, x5, x6, x7, x8, x9, x10, x11], _, hx, hel =>
    simp only [List.map_cons, List.map_nil, List.cons.injEq, and_true] at hx
    obtain ⟨d0, d1, d2, d3, d4, d5, d6, d7, d8, d9, d10, d11⟩ := hx
    have r0 := row_cells (hel 0 (by decide)) d0.symm
    have r1 := row_cells (hel 1 (by decide)) d1.symm
    have r2 := row_cells (hel 2 (by decide)) d2.symm
    have r3 := row_cells (hel 3 (by decide)) d3.symm
    have r4 := row_cells (hel 4 (by decide)) d4.symm
    have r5 := row_cells (hel 5 (by decide)) d5.symm
    have r6 := row_cells (hel 6 (by decide)) d6.symm
    have r7 := row_cells (hel 7 (by decide)) d7.symm
    have r8 := row_cells (hel 8 (by decide)) d8.symm
    have r9 := row_cells (hel 9 (by decide)) d9.symm
    have r10 := row_cells (hel 10 (by decide)) d10.symm
    have r11 := row_cells (hel 11 (by decide)) d11.symm
    have e12 : cs0.toList.drop 36 = [] := List.drop_of_length_le (by omega)
    have e11 := chunk _ _ _ r11 e12
    have e10 := chunk _ _ _ r10 e11
    have e9 := chunk _ _ _ r9 e10
    have e8 := chunk _ _ _ r8 e9
    have e7 := chunk _ _ _ r7 e8
    have e6 := chunk _ _ _ r6 e7
    have e5 := chunk _ _ _ r5 e6
    have e4 := chunk _ _ _ r4 e5
    have e3 := chunk _ _ _ r3 e4
    have e2 := chunk _ _ _ r2 e3
    have e1 := chunk _ _ _ r1 e2
    have e0 := chunk _ _ _ r0 e1
    have ec : cs0 = tabA := by
      apply Array.toList_inj.1
      have : cs0.toList.drop (0 * 3) = cs0.toList := rfl
      rw [← this, e0]
      rfl
    subst ec
    unfold World.var? at hv0
    rw [gRows] at hv0
    simp only [Option.bind_some] at hv0
    unfold Tab
    split at hv0
    · rename_i c t fr hc
      cases hv0
      exact ⟨t, fr, hc⟩
    · cases hv0

/-- The heap that the program's own start-up leaves meets the condition. -/
theorem door_met (os : Os) (args : Array Value) : laidMetH Tryd.prog [("crib/code.rows", Rows.laid_crib_code_rows)] ((World.doorLaid Tryd.prog 26 os).forCall (fun _ _ => 0) ⟨#[], args, []⟩).memory :=
  laidMetH_of_parts3 (fuel := 8) (laidMet_of_run' 8 (by kernel_rfl) (by kernel_rfl)) (by kernel_rfl) (by kernel_rfl)
end Go.Proofs.YtmmflekajbeamaaDoor
