/-
  THE LAW Devices, walked (criblaw.plays, criblaw.Devices).
  The table of instructions, as the card's condition tells it, is the table that the walks read; and the program's own start-up meets that condition. Shared by the cards.
  A script that came in: its steps as they lie in memory.
-/
import Derived.Test.YtmmflekajbeamaaGreatDoorD31
import Derived.Test.YtmmflekajbeamaaGreatDoorD03
import Derived.Test.YtmmflekajbeamaaGreatDoorCards
import Derived.Test.YtmmflekajbeamaaGreatDoorTie
import Derived.ProofKit
import Derived.LaidMore
import Derived.OpenShut
import Derived.Stop.Joined
import Derived.Deep.Strs
import Derived.SevenTiedAt
import Derived.ChangeMaps5
import Derived.Deep.Slices
namespace Go.Proofs.YtmmflekajbeamaaGreatDoor
open Go.RowKit

/-- A step of a script that may be. -/
structure OpOK (cs : List Value) : Prop where
  it : ∃ k on a b s t z, cs = (opC k on a b s t z).toList ∧ z.length = 138 ∧ s.size ≤ 140737488351232 ∧ (-9223372036854775808 ≤ on ∧ on ≤ 9223372036854775807) ∧ a ≤ 9223372036854775807
/-- A script in memory. -/
structure ScAt (v : Value) (n : Nat) (w : World) : Prop where
  form : ∃ ad c, v = .slice ad n c
  at' : ∀ i, i < n → ∃ G o c, v = .slice (some ⟨G, o, none⟩) n c ∧ G < w.heap.size ∧ ∃ cs, OpOK cs ∧ w.rangeAt G (o + i * 144) cs
  few : n ≤ 1000000000000
theorem ScAt.up {v : Value} {n : Nat} {w w' : World} (h : ScAt v n w) (hb : Below w.heap.size w w') : ScAt v n w' := by
  refine ⟨h.form, fun i hi => ?_, h.few⟩
  obtain ⟨G, o, c, e, hG, cs, hc, hr⟩ := h.at' i hi
  exact ⟨G, o, c, e, Nat.lt_of_lt_of_le hG hb.size, cs, hc, fun j x hx => (World.cell?_of_block (hb.block G hG)).trans (hr j x hx)⟩
theorem j_ten {j n : Nat} (h : j < n) (hn : n ≤ 1000000000000) : j ≤ 140737488351232 := by omega
theorem zeroOp_size : (Tryz.zeroCells51).size = 144 := by kernel_rfl
theorem opC_one (k on a b : Int) (s t : ByteArray) (z : List Int) : (opC k on a b s t z).all (·.oneCell') = true := by
  unfold opC S
  rw [Array.all_append]
  simp [Value.oneCell']
theorem opC_size (k on a b : Int) (s t : ByteArray) (z : List Int) (hz : z.length = 138) : (opC k on a b s t z).size = 144 := by
  have := opC_len k on a b s t z hz
  rwa [Array.length_toList] at this

set_option maxRecDepth 100000 in
set_option maxHeartbeats 8000000 in
theorem plays_any (v : Value) (n : Nat) (w : World) (h : ScAt v n w) :
    Calls Tryz.prog 6 #[v, .int .i64 20, .int .i64 26] w fun e' w' => e' = .returned (.bool true) ∧ Below w.heap.size w w' := by
  obtain ⟨ad, cc, rfl⟩ := h.form
  have HH := hide h
  have HBg := hide (begins_any w)
  have HFew := hide h.few
  clear h
  go_enter Tryz.func6, Tryz.ntmps6
  go_wp2_with fail
  refine (unhide HBg).mono ?_
  rintro e w1 ⟨rfl, hb1⟩
  obtain ⟨W, hW⟩ : ∃ W, W = w1.alloc (.cells worldC 49) := ⟨_, rfl⟩
  have hA : WAt w1.heap.size [] (.slice none 0 0) 0 W := wat_new _ _ (by rw [hW, _root_.Go.heap_alloc_new])
  have hBW : Below w1.heap.size w1 W := by rw [hW]; exact (Below.refl _ _).alloc (Nat.le_refl _) _
  have HW := hide hW; have HA := hide hA; have HB1 := hide hb1; have HBW := hide hBW
  have hz1 := hb1.size
  clear hW hA hb1 hBW HBg
  go_wp2_with fail
  rw [← HW.out]
  go_loopw [9] (fun i wr => ∃ j : Nat, j ≤ n ∧ i = .int .i64 j ∧ Hid (∃ ps sv, WAt w1.heap.size ps sv j wr ∧ Below w1.heap.size w1 wr ∧ ps.length ≤ j)) (fun i _ => n - (intOf i).toNat)
  case atStart => exact ⟨0, Nat.zero_le _, rfl, ⟨[], _, HA.out, HBW.out, Nat.le_refl _⟩⟩
  case round =>
    obtain ⟨j, hj, rfl, HI⟩ := hrel
    by_cases hlt : j < n
    · have hlt' : (j : Int) < (n : Int) := by omega
      have hmx : (j : Int) < 1152921504606846976 := by have := HFew.out; omega
      obtain ⟨ps, sv, hI⟩ := HI.out
      have hbw : Below w.heap.size w wr := HB1.out.trans (hI.2.1.mono hz1)
      obtain ⟨G, o, c, hv, hG, cs, hcs, hrg⟩ := (HH.out.up hbw).at' j hlt
      obtain ⟨k, on, a, b, s, t, z, rfl, hz, hs, hon, ha⟩ := hcs.it
      cases hv
      have hj0 : ¬ (j : Int) < 0 := by omega
      have HRg := hide hrg
      have HLn := hide (opC_len k on a b s t z hz)
      obtain ⟨W1, hW1⟩ : ∃ W1, W1 = wr.alloc (.cells (opC k on a b s t z) 51) := ⟨_, rfl⟩
      have hO := ox_new hI.1 k on a b s t z W1 hW1
      have sc := run_storeCells_new (P := Tryz.prog) wr 51 Tryz.zeroCells51 (opC k on a b s t z) (by rw [sizeOp, opC_size _ _ _ _ _ _ _ hz]) (by rw [opC_size _ _ _ _ _ _ _ hz]; exact zeroOp_size) (opC_one k on a b s t z)
      rw [← hW1] at sc
      have c0 := hO.c0
      have HO := hide hO; have HI2 := hide hI.2
      have HAl := hide hO.all
      have HSt : Hid (20 ≤ k ∧ k ≤ 26 → Calls Tryz.prog 13 #[.pointer (some ⟨w1.heap.size, 0, none⟩), .agg (opC k on a b s t z)] W1 (StPost w1.heap.size ps k j W1)) := fun hk => step_any w1.heap.size ps sv j k on a b s t z W1 hO.wa (Nat.le_trans hI.2.2 (Nat.le_trans hj HFew.out)) hk hz (by have := HFew.out; omega) hs hon ha
      have HW1 := hide hW1
      clear hrg hcs hs hon ha hO hI hbw HI hW1
      have HwJ := hide (wrapJ (m := j) (j_ten hlt HFew.out))
      by_cases hk : 20 ≤ k ∧ k ≤ 26
      · have k1 : ¬ k < 20 := by omega
        have k2 : ¬ 26 < k := by omega
        have HSt2 := hide (HSt.out hk)
        clear hk HSt
        generalize opC k on a b s t z = OC at *
        go_upto_region 8 with fail
        clear hmx
        go_wp2_with (first
          | (refine wpList_load_mid rfl 51 _ rfl G (o + j * 144) rfl OC.toList _ HRg.out Tryz.underlying51 rfl (by rw [sizeOp, HLn.out]) ?_)
          | (refine wpList_load_mid rfl 51 _ rfl wr.heap.size 0 rfl OC.toList _ HAl.out Tryz.underlying51 rfl (by rw [sizeOp, HLn.out]) ?_))
        refine (unhide HSt2).mono ?_
        rintro e w2 ⟨rfl, ps2, sv2, h2, hb2, hl2⟩
        have HLk := hide (looks_nil w1.heap.size w2 h2.bk)
        have HN : Hid (∃ ps sv, WAt w1.heap.size ps sv (j + 1) w2 ∧ Below w1.heap.size w1 w2 ∧ ps.length ≤ j + 1) := ⟨ps2, sv2, h2, HI2.out.1.trans ((HO.out.bel.mono HI2.out.1.size).trans hb2), by rw [hl2]; have := HI2.out.2; split <;> omega⟩
        clear h2 hb2 hl2 HSt2
        go_wp2_with fail
        refine (unhide HLk).mono ?_
        rintro e w' ⟨rfl, hw⟩
        obtain rfl := hw.symm
        go_wp2_with fail
        exact ⟨⟨j + 1, hlt, congrArg (Value.int .i64) HwJ.out, HN⟩, measM HwJ.out hlt⟩
      · have HN : Hid (∃ ps sv, WAt w1.heap.size ps sv (j + 1) W1 ∧ Below w1.heap.size w1 W1 ∧ ps.length ≤ j + 1) := ⟨ps, sv, HO.out.wa.more (Nat.le_succ j), HI2.out.1.trans (HO.out.bel.mono HI2.out.1.size), Nat.le_succ_of_le HI2.out.2⟩
        clear HSt
        by_cases k1 : k < 20
        · clear hk
          generalize opC k on a b s t z = OC at *
          go_upto_region 8 with fail
          clear hmx
          go_wp2_with (refine wpList_load_mid rfl 51 _ rfl G (o + j * 144) rfl OC.toList _ HRg.out Tryz.underlying51 rfl (by rw [sizeOp, HLn.out]) ?_)
          exact ⟨⟨j + 1, hlt, congrArg (Value.int .i64) HwJ.out, HN⟩, measM HwJ.out hlt⟩
        · have k2 : 26 < k := by omega
          clear hk
          generalize opC k on a b s t z = OC at *
          go_upto_region 8 with fail
          clear hmx
          go_wp2_with (refine wpList_load_mid rfl 51 _ rfl G (o + j * 144) rfl OC.toList _ HRg.out Tryz.underlying51 rfl (by rw [sizeOp, HLn.out]) ?_)
          exact ⟨⟨j + 1, hlt, congrArg (Value.int .i64) HwJ.out, HN⟩, measM HwJ.out hlt⟩
    · have hlt' : ¬ (j : Int) < (n : Int) := by omega
      obtain ⟨ps, sv, hI⟩ := HI.out
      have HBe : Hid (Below w.heap.size w wr) := HB1.out.trans (hI.2.1.mono hz1)
      clear hI HI
      go_wp2_with fail
      go_ret
      exact ⟨rfl, HBe.out⟩
set_option maxRecDepth 100000 in
theorem devices_any (v : Value) (n : Nat) (w : World) (h : ScAt v n w) : Calls Tryz.prog 3 #[v] w fun e' w' => e' = .returned (.bool true) ∧ Below w.heap.size w w' := by
  have HP := hide (plays_any v n w h)
  obtain ⟨ad, c, rfl⟩ := h.form
  clear h
  go_enter Tryz.func3, Tryz.ntmps3
  go_wp2_with fail
  refine (unhide HP).mono ?_
  rintro e w1 ⟨rfl, hb⟩
  have HB := hide hb
  clear hb
  go_wp2_with fail
  go_ret
  exact ⟨rfl, HB.out⟩
end Go.Proofs.YtmmflekajbeamaaGreatDoor

namespace Go.Proofs.YtmmflekajbeamaaGreatDoor
open Go.ChangeShapes Go.WideShapes Go.ChangeAt Go.WideMaps Go.WideElems Go.RowKit

theorem own : ownKnob Tryz.prog.godebug = none := by kernel_rfl
theorem laidOut : laidOutB Tryz.prog = true := by kernel_rfl
theorem gRows : Tryz.prog.globalNamed "crib/code.rows" = some 0 := by kernel_rfl
theorem tRows : (Tryz.prog.globals[0]?).map (·.type) = some 288 := by kernel_rfl
theorem c114 : Tryz.prog.cellsOf 245 = 3 := by kernel_rfl
theorem c132 : Tryz.prog.cellsOf 288 = 36 := by kernel_rfl
theorem c9 : Tryz.prog.cellsOf 9 = 1 := by kernel_rfl
theorem cells3t : Tryz.prog.cellsOf 3 = 1 := by kernel_rfl

set_option maxRecDepth 100000 in
/-- A row of the table, read: its three cells. -/
theorem row_cells {H : Type} {enc : TypeId × Value → H} {W : World} {base : Nat} {spare : Nat → Bool} {held : Bool} {m : Nat} {cs : List Value} {x : DataW H × List MemPlace} {a b : List UInt8} {n : Int}
    (h : DataW.trod enc Tryz.prog W base spare held m 245 cs = some x) (hx : x.1 = .agg [.lit (.string a), .lit (.int .i64 n), .lit (.string b)]) : cs = [.string ⟨a.toArray⟩, .int .i64 n, .string ⟨b.toArray⟩] := by
  obtain ⟨y0, y1, y2, k, rfl, hl, h0, h1, h2⟩ := Go.Deep.trod_struct3 Tryz.underlying245 h
  rw [c114] at hl
  match cs, hl with
  | [v0, v1, v2], _ =>
    obtain ⟨s0, e0, f0, _⟩ := DataW.trod_string Tryz.underlying9 h0
    obtain ⟨k1, e1, f1, _⟩ := DataW.trod_int Tryz.underlying3 h1
    obtain ⟨s2, e2, f2, _⟩ := DataW.trod_string Tryz.underlying9 h2
    subst f0 f1 f2
    simp [c9, cells3t] at e0 e1 e2
    simp at hx
    obtain ⟨rfl, rfl, rfl⟩ := hx
    subst e0 e1 e2
    rfl

theorem chunk {cs : List Value} {rest : List Value} {i : Nat} (a b c : Value) (h : (cs.drop i).take 3 = [a, b, c]) (hr : cs.drop (i + 3) = rest) : cs.drop i = a :: b :: c :: rest := by
  have := List.take_append_drop 3 (cs.drop i)
  rw [h, List.drop_drop, hr] at this
  exact this.symm

set_option maxRecDepth 100000 in
theorem of_laid {W : World} (h : laidMetH Tryz.prog [("crib/code.rows", Rows.laid_crib_code_rows)] W) : Tab W := by
  rw [MakeChecks.laidMetH_plain _ _ _ (by kernel_rfl)] at h
  obtain ⟨ps, ⟨g0, t0, cs0, f0, p0, q0, hg0, ht0, hv0, hd0, _⟩, _, _⟩ := h
  obtain rfl := Option.some.inj (gRows.symm.trans hg0)
  obtain rfl := Option.some.inj (tRows.symm.trans ht0)
  obtain ⟨xs, m1, rfl, hx1, hlen, hn, hel⟩ := DataW.trod_array Tryz.underlying288 hd0
  rw [c114] at hel
  rw [c132] at hlen
  simp only [Prod.mk.injEq] at hx1
  have hx := hx1.1
  simp only [Rows.laid_crib_code_rows, DataW.agg.injEq] at hx
  match xs, hn, hx, hel with
  | [x0, x1, x2, x3, x4, x5, x6, x7, x8, x9, x10, x11], _, hx, hel =>
    simp only [List.map_cons, List.map_nil, List.cons.injEq, and_true] at hx
    obtain ⟨d0, d1, d2, d3, d4, d5, d6, d7, d8, d9, d10, d11⟩ := hx
    have r0 := row_cells (hel 0 (by decide)) d0.symm
    have r1 := row_cells (hel 1 (by decide)) d1.symm
    have r2 := row_cells (hel 2 (by decide)) d2.symm
    have r3 := row_cells (hel 3 (by decide)) d3.symm
    have r4 := row_cells (hel 4 (by decide)) d4.symm
    have r5 := row_cells (hel 5 (by decide)) d5.symm
    have r6 := row_cells (hel 6 (by decide)) d6.symm
    have r7 := row_cells (hel 7 (by decide)) d7.symm
    have r8 := row_cells (hel 8 (by decide)) d8.symm
    have r9 := row_cells (hel 9 (by decide)) d9.symm
    have r10 := row_cells (hel 10 (by decide)) d10.symm
    have r11 := row_cells (hel 11 (by decide)) d11.symm
    have e12 : cs0.toList.drop 36 = [] := List.drop_of_length_le (by omega)
    have e11 := chunk _ _ _ r11 e12
    have e10 := chunk _ _ _ r10 e11
    have e9 := chunk _ _ _ r9 e10
    have e8 := chunk _ _ _ r8 e9
    have e7 := chunk _ _ _ r7 e8
    have e6 := chunk _ _ _ r6 e7
    have e5 := chunk _ _ _ r5 e6
    have e4 := chunk _ _ _ r4 e5
    have e3 := chunk _ _ _ r3 e4
    have e2 := chunk _ _ _ r2 e3
    have e1 := chunk _ _ _ r1 e2
    have e0 := chunk _ _ _ r0 e1
    have ec : cs0 = tabA := by
      apply Array.toList_inj.1
      have : cs0.toList.drop (0 * 3) = cs0.toList := rfl
      rw [← this, e0]
      rfl
    subst ec
    unfold World.var? at hv0
    rw [gRows] at hv0
    simp only [Option.bind_some] at hv0
    unfold Tab
    split at hv0
    · rename_i c t fr hc
      cases hv0
      exact ⟨t, fr, hc⟩
    · cases hv0

/-- The heap that the program's own start-up leaves meets the condition. -/
theorem door_met (os : Os) (args : Array Value) : laidMetH Tryz.prog [("crib/code.rows", Rows.laid_crib_code_rows)] ((World.doorLaid Tryz.prog 26 os).forCall (fun _ _ => 0) ⟨#[], args, []⟩).memory :=
  laidMetH_of_parts3 (fuel := 8) (laidMet_of_run' 8 (by kernel_rfl) (by kernel_rfl)) (by kernel_rfl) (by kernel_rfl)
end Go.Proofs.YtmmflekajbeamaaGreatDoor

namespace Go.Proofs.YtmmflekajbeamaaGreatDoor
open Go.ChangeShapes Go.WideShapes Go.ChangeAt Go.WideMaps Go.WideElems Go.RowKit

section
variable {H : Type} {enc : TypeId × Value → H} {w : World} {base : Nat} {sp : Nat → Bool} {held : Bool}
theorem c_int : Tryz.prog.cellsOf 3 = 1 := by kernel_rfl
theorem c_str : Tryz.prog.cellsOf 9 = 1 := by kernel_rfl
theorem c_Op : Tryz.prog.cellsOf 51 = 144 := by kernel_rfl
theorem c_St : Tryz.prog.cellsOf 28 = 138 := by kernel_rfl
theorem c_Rg : Tryz.prog.cellsOf 25 = 8 := by kernel_rfl
theorem c_Me : Tryz.prog.cellsOf 26 = 128 := by kernel_rfl
theorem one_at {cs : List Value} {i : Nat} {v : Value} (h : (cs.drop i).take 1 = [v]) : cs[i]? = some v := by
  have : ((cs.drop i).take 1)[0]? = some v := by rw [h]; rfl
  rw [List.getElem?_take, if_pos (by decide), List.getElem?_drop] at this
  simpa using this
theorem int_at {fuel : Nat} {cs : List Value} {i : Nat} {x : DataW H × List MemPlace} (h : DataW.trod enc Tryz.prog w base sp held fuel 3 ((cs.drop i).take (Tryz.prog.cellsOf 3)) = some x) : ∃ n, cs[i]? = some (.int .i64 n) ∧ -9223372036854775808 ≤ n ∧ n ≤ 9223372036854775807 := by
  rw [c_int] at h
  obtain ⟨n, h1, _, hw⟩ := DataW.trod_int Tryz.underlying3 h
  exact ⟨n, one_at h1, Go.bounds_i64 hw⟩
theorem arr_ints {t : TypeId} {k fuel : Nat} {cs : List Value} {x : DataW H × List MemPlace} (ht : Tryz.prog.underlying t = some (.array k 3)) (h : DataW.trod enc Tryz.prog w base sp held fuel t cs = some x) : ∀ i, i < k → ∃ n, cs[i]? = some (.int .i64 n) := by
  obtain ⟨xs, m, _, _, _, hxl, hx⟩ := DataW.trod_array ht h
  intro i hi
  have h1 := hx i hi
  rw [List.getElem?_eq_getElem (by omega)] at h1
  obtain ⟨n, hn, _⟩ := int_at h1
  rw [c_int, Nat.mul_one] at hn
  exact ⟨n, hn⟩
theorem ints_of {cs : List Value} (h : ∀ i, i < cs.length → ∃ n, cs[i]? = some (.int .i64 n)) : ∃ z : List Int, cs = z.map (Value.int .i64) := by
  induction cs with
  | nil => exact ⟨[], rfl⟩
  | cons x l ih =>
    obtain ⟨n, hn⟩ := h 0 (by simp)
    obtain ⟨z, hz⟩ := ih (fun i hi => by have := h (i + 1) (by simp; omega); simpa using this)
    have : x = .int .i64 n := by simpa using hn
    exact ⟨n :: z, by rw [this, hz]; rfl⟩
theorem state_ints {fuel : Nat} {cs : List Value} {x : DataW H × List MemPlace} (h : DataW.trod enc Tryz.prog w base sp held fuel 28 cs = some x) : ∃ z : List Int, cs = z.map (Value.int .i64) ∧ z.length = 138 := by
  obtain ⟨xs, m, _, _, hl, hxl, hf⟩ := DataW.trod_struct Tryz.underlying28 h
  rw [c_St] at hl
  have g0 := hf 0 _ rfl
  have g1 := hf 1 _ rfl
  have g2 := hf 2 _ rfl
  have g3 := hf 3 _ rfl
  have hxl' : xs.length = 4 := hxl
  rw [List.getElem?_eq_getElem (by omega)] at g0 g1 g2 g3
  have i0 := arr_ints Tryz.underlying25 g0
  have i1 := arr_ints Tryz.underlying26 g1
  obtain ⟨n2, e2, _⟩ := int_at g2
  obtain ⟨n3, e3, _⟩ := int_at g3
  have key : ∀ i, i < cs.length → ∃ n, cs[i]? = some (.int .i64 n) := fun i hi => by
    rw [hl] at hi
    by_cases h8 : i < 8
    · obtain ⟨n, hn⟩ := i0 i h8
      rw [List.getElem?_take] at hn
      split at hn
      · exact ⟨n, by simpa using hn⟩
      · cases hn
    by_cases h136 : i < 136
    · obtain ⟨n, hn⟩ := i1 (i - 8) (by omega)
      rw [List.getElem?_take] at hn
      split at hn
      · rw [List.getElem?_drop] at hn
        exact ⟨n, by rw [show i = 8 + (i - 8) by omega]; exact hn⟩
      · cases hn
    by_cases h2 : i = 136
    · subst h2; exact ⟨n2, e2⟩
    · obtain rfl : i = 137 := by omega
      exact ⟨n3, e3⟩
  obtain ⟨z, hz⟩ := ints_of key
  exact ⟨z, hz, by have := congrArg List.length hz; rw [hl, List.length_map] at this; exact this.symm⟩
theorem str_at {fuel : Nat} {cs : List Value} {i : Nat} {x : DataW H × List MemPlace} (h : DataW.trod enc Tryz.prog w base sp held fuel 9 ((cs.drop i).take (Tryz.prog.cellsOf 9)) = some x) : ∃ s : ByteArray, cs[i]? = some (.string s) ∧ x.1 = .lit (.string s.data.toList) := by
  rw [c_str] at h
  obtain ⟨s, h1, h2, _⟩ := DataW.trod_string Tryz.underlying9 h
  exact ⟨s, one_at h1, by rw [h2]⟩
theorem op_shape {cs : List Value} {k on a b : Int} {s t : ByteArray} {z : List Int} (hl : cs.length = 144) (e0 : cs[0]? = some (.int .i64 k)) (e1 : cs[1]? = some (.int .i64 on)) (e2 : cs[2]? = some (.int .i64 a)) (e3 : cs[3]? = some (.int .i64 b)) (e4 : cs[4]? = some (.string s)) (e5 : cs[5]? = some (.string t)) (h6 : cs.drop 6 = z.map (Value.int .i64)) : cs = (opC k on a b s t z).toList := by
  match cs, hl with
  | v0 :: v1 :: v2 :: v3 :: v4 :: v5 :: r, _ =>
    simp only [List.getElem?_cons_zero, List.getElem?_cons_succ, Option.some.injEq] at e0 e1 e2 e3 e4 e5
    subst e0 e1 e2 e3 e4 e5
    have h7 : r = z.map (Value.int .i64) := h6
    rw [h7]
    unfold opC S
    simp
/-- One step that came in. -/
theorem op_open {fuel : Nat} {cs : List Value} {x : DataW H × List MemPlace} (h : DataW.trod enc Tryz.prog w base sp held fuel 51 cs = some x) (hw : ∀ n ∈ DataW.weights Tryz.prog 51 x.1, n ≤ reachBytes) : OpOK cs := by
  obtain ⟨xs, m, _, hx, hl, hxl, hf⟩ := DataW.trod_struct Tryz.underlying51 h
  rw [c_Op] at hl
  have hxl' : xs.length = 7 := hxl
  have g0 := hf 0 _ rfl
  have g1 := hf 1 _ rfl
  have g2 := hf 2 _ rfl
  have g3 := hf 3 _ rfl
  have g4 := hf 4 _ rfl
  have g5 := hf 5 _ rfl
  have g6 := hf 6 _ rfl
  match xs, hxl' with
  | [y0, y1, y2, y3, y4, y5, y6], _ =>
    obtain ⟨k, e0, _⟩ := int_at g0
    obtain ⟨on, e1, b1⟩ := int_at g1
    obtain ⟨a, e2, b2⟩ := int_at g2
    obtain ⟨b, e3, _⟩ := int_at g3
    obtain ⟨s, e4, y4e⟩ := str_at g4
    obtain ⟨t, e5, _⟩ := str_at g5
    obtain ⟨z, e6, hz⟩ := state_ints g6
    refine ⟨k, on, a, b, s, t, z, ?_, hz, ?_, b1, b2.2⟩
    · have h6 : cs.drop 6 = z.map (Value.int .i64) := by
        have q : (cs.drop 6).take (Tryz.prog.cellsOf 28) = cs.drop 6 := List.take_of_length_le (by rw [c_St, List.length_drop]; omega)
        rw [← q]
        exact e6
      exact op_shape hl e0 e1 e2 e3 e4 e5 h6
    · have h1 := hw s.data.toList.length (by
        rw [hx]
        simp [DataW.weights, Tryz.underlying51, DataW.weightsEach, y4e])
      rw [Array.length_toList] at h1
      unfold reachBytes at h1
      exact h1
theorem weights_mem {P : Program} {e : TypeId} (d : DataW H) : ∀ l : List (DataW H), d ∈ l → ∀ k ∈ DataW.weights P e d, k ∈ DataW.weightsAll P e l
  | [], h, _, _ => by cases h
  | x :: l, h, k, hk => by
    rw [DataW.weightsAll]
    rcases List.mem_cons.1 h with rfl | h
    · exact List.mem_append_left _ hk
    · exact List.mem_append_right _ (weights_mem d l h k hk)
set_option maxRecDepth 100000 in
/-- A whole script that came in. -/
theorem script_open {fuel : Nat} {v : Value} {d : DataW H} {p : List MemPlace} (h : DataW.trod enc Tryz.prog w base sp held fuel 22 v.cells.toList = some (d, p)) (hv : ∃ a len cap, v = .slice a len cap) (hlt : ∀ x ∈ p, x.block < w.heap.size) (hw : ∀ n ∈ DataW.weights Tryz.prog 22 d, n ≤ reachBytes) : ∃ n, ScAt v n w := by
  obtain ⟨a0, len0, cap0, rfl⟩ := hv
  rcases Go.Deep.open_slice Tryz.underlying22 h with ⟨hcs, _⟩ | ⟨a, len, cap, m, n, D, Pl, hcs, hb, hl, hm, hmm, hx, hel⟩
  · simp [Value.cells] at hcs
    obtain ⟨rfl, rfl, rfl⟩ := hcs
    exact ⟨0, ⟨⟨none, 0, rfl⟩, fun i hi => absurd hi (Nat.not_lt_zero _), Nat.zero_le _⟩⟩
  · simp [Value.cells] at hcs
    obtain ⟨rfl, rfl, rfl⟩ := hcs
    simp only [Prod.mk.injEq] at hx
    obtain ⟨hd, hp⟩ := hx
    rw [hp] at hlt
    rw [hd] at hw
    clear hd hp h
    rw [c_Op] at hel hlt
    have hlm : len0 ≤ m := by rw [hmm]; split <;> omega
    have hwl : ∀ k ∈ ((len0 + (m - len0)) * Tryz.prog.bytesOf 51) :: (DataW.weightsAll Tryz.prog 51 ((List.range len0).map D) ++ DataW.weightsAll Tryz.prog 51 ((List.range (m - len0)).map fun j => D (len0 + j))), k ≤ reachBytes := fun k hk => hw k (by
      simp only [DataW.weights, Tryz.underlying22, List.length_map, List.length_range]
      exact hk)
    have hby : Tryz.prog.bytesOf 51 = 1168 := by kernel_rfl
    refine ⟨len0, ⟨⟨_, _, rfl⟩, fun i hi => ?_, ?_⟩⟩
    · obtain ⟨cs', h1, h2⟩ := hel i (by omega)
      obtain ⟨_, hcl, hcell⟩ := World.cells?_some h1
      have hok := op_open h2 (fun k hk => hwl k (by
        refine List.mem_cons_of_mem _ (List.mem_append_left _ ?_)
        exact weights_mem (D i) _ (List.mem_map.2 ⟨i, List.mem_range.2 hi, rfl⟩) k hk))
      obtain ⟨cz, z1, z2⟩ := hel 0 (by omega)
      obtain ⟨_, hzl, hzc⟩ := World.cells?_some z1
      have hc0 := hzc 0 (by omega)
      rw [List.getElem?_eq_getElem (by omega)] at hc0
      obtain ⟨blk, off, spot⟩ := a
      have hspot : spot = none := by simpa [Addr.add] using World.cell?_spot hc0
      subst hspot
      refine ⟨blk, off, _, rfl, ?_, cs', hok, fun j x hj => ?_⟩
      · have hm0 : 0 < m := by omega
        exact hlt (.cell blk (off + 0)) (List.mem_append_left _ (MemPlace.mem_row.2 ⟨0, by omega, rfl⟩))
      · have hj144 : j < 144 := by rw [← hcl]; exact (List.getElem?_eq_some_iff.1 hj).1
        have := hcell j hj144
        rw [hj, Go.Deep.add_add, Go.WideShapes.add_plain] at this
        rw [Nat.add_assoc]
        exact this
    · have := hwl _ (List.mem_cons_self)
      rw [hby] at this
      unfold reachBytes at this
      omega
end
end Go.Proofs.YtmmflekajbeamaaGreatDoor
