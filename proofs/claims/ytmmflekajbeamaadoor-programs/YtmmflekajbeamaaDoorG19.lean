/-
  The document's own answer: a line's instruction (one).
-/
import Derived.Test.YtmmflekajbeamaaDoorG17
import Derived.Test.YtmmflekajbeamaaDoorG18
namespace Go.Proofs.YtmmflekajbeamaaDoor
open Go.RowKit

def unitD (c : UInt8) : Int := if c = 97 then 1048576 else if c = 98 then 65536 else if c = 99 then 4096 else 1
def partD (c : UInt8) (lb : List (List UInt8 × Int)) (ga : Bool) (t : ByteArray) : Int := if c = 110 then numD 4095 lb ga t else if c = 118 then numD 4294967295 lb ga t else regD t.data.toList
def oneGo (e : Int) (lb : List (List UInt8 × Int)) (ga : Bool) : List UInt8 → List (ByteArray × Int) → Int → Int → Int × Int × Int
  | [], [], w, lost => if 0 < lost then (0, 7, lost) else (w, 0, 0)
  | [], t :: _, _, _ => (0, 4, t.2)
  | _ :: _, [], _, _ => (0, 4, e)
  | c :: cs, t :: ts, w, lost => if partD c lb ga t.1 = -1 then (0, 4, t.2) else oneGo e lb ga cs ts (w + partD c lb ga t.1 * unitD c) (if partD c lb ga t.1 = -2 ∧ lost = 0 then t.2 else lost)
def w0D (n : Nat) : Int := if n = 11 then 0 else fmOp n * 16777216
def oneD (h : ByteArray × Int) (ps : List (ByteArray × Int)) (e : Int) (lb : List (List UInt8 × Int)) (ga : Bool) : Int × Int × Int :=
  match rowIx h.1.data.toList with
  | none => (0, 4, h.2)
  | some n => oneGo e lb ga (fmPt n) ps (w0D n) 0

/-- A slice of the document's tokens, wherever it begins. -/
def DSl (w : World) (v : Value) (l : List (ByteArray × Int)) : Prop :=
  ∃ a cap, v = .slice a l.length cap ∧ l.length ≤ cap ∧ (l ≠ [] → ∃ g off, a = some ⟨g, off, none⟩ ∧ ∀ i p, l[i]? = some p → w.cell? ⟨g, off + i * 2, none⟩ = some (.string p.1) ∧ w.cell? ⟨g, off + i * 2 + 1, none⟩ = some (.int .i64 p.2))
theorem DSl.below {w w' : World} {v : Value} {l : List (ByteArray × Int)} (h : DSl w v l) (hb : Below w.heap.size w w') : DSl w' v l := by
  obtain ⟨a, cap, hv, hc, h⟩ := h
  refine ⟨a, cap, hv, hc, fun hne => ?_⟩
  obtain ⟨g, off, ha, hr⟩ := h hne
  exact ⟨g, off, ha, fun i p hi => ⟨(below_cell' hb g _ (block_lt_of_cell (hr i p hi).1)).trans (hr i p hi).1, (below_cell' hb g _ (block_lt_of_cell (hr i p hi).2)).trans (hr i p hi).2⟩⟩
theorem regD_bd (l : List UInt8) : -1 ≤ regD l ∧ regD l ≤ 7 := by
  unfold regD
  split
  · rename_i h
    obtain ⟨a, b, _, q1, q2, q3⟩ := regB_val h
    rw [q3]; omega
  · omega
theorem lookup_in {l : List (List UInt8 × Int)} {k : List UInt8} {x : Int} (h : l.lookup k = some x) : (k, x) ∈ l := by
  induction l with
  | nil => cases h
  | cons p l ih =>
    obtain ⟨k', x'⟩ := p
    unfold List.lookup at h
    cases hq : k == k' with
    | true =>
      rw [hq] at h
      cases h
      rw [beq_iff_eq.1 hq]
      exact List.mem_cons_self
    | false =>
      rw [hq] at h
      exact List.mem_cons_of_mem _ (ih h)
theorem numD_bd (most : Int) (hm0 : 0 ≤ most) (hm : most ≤ 4294967295) (lb : List (List UInt8 × Int)) (ga : Bool) (t : ByteArray) (hlb : ∀ p ∈ lb, 0 ≤ p.2 ∧ p.2 ≤ 128) : -2 ≤ numD most lb ga t ∧ numD most lb ga t ≤ 4294967295 := by
  unfold numD
  split
  · rename_i h
    unfold digOK at h
    simp only [Bool.and_eq_true, decide_eq_true_eq] at h
    have hn := h.1
    simp only [numOK, Bool.and_eq_true, decide_eq_true_eq, List.all_eq_true] at hn
    have := (valD_bd _ hn.2 hn.1.2).1
    omega
  · split
    · split
      · omega
      · cases hq : lb.lookup t.data.toList with
        | none => simp
        | some x =>
          have := hlb _ (lookup_in hq)
          simp only [Option.getD_some]
          simp only at this
          omega
    · omega
theorem fmPt_kind (n i : Nat) (c : UInt8) (h : (fmPt n)[i]? = some c) : c = 97 ∨ c = 98 ∨ c = 99 ∨ c = 110 ∨ c = 118 := by
  have hm : c ∈ fmPt n := List.mem_of_getElem? h
  match n, hm with
  | 0, hm => simp [fmPt] at hm
  | 1, hm | 6, hm | 7, hm | 8, hm => simp [fmPt] at hm; rcases hm with rfl | rfl | rfl <;> decide
  | 2, hm | 3, hm | 4, hm | 5, hm => simp [fmPt] at hm; rcases hm with rfl | rfl | rfl <;> decide
  | 9, hm => simp [fmPt] at hm; subst hm; decide
  | 10, hm => simp [fmPt] at hm; subst hm; decide
  | 11, hm => simp [fmPt] at hm; subst hm; decide
  | k + 12, hm => simp [fmPt] at hm
theorem fmPt_len (n : Nat) : (fmPt n).length ≤ 3 := by
  match n with
  | 0 | 1 | 2 | 3 | 4 | 5 | 6 | 7 | 8 | 9 | 10 | 11 => decide
  | k + 12 => simp [fmPt]
theorem fmOp_bd (n : Nat) (h : n < 12) : 0 ≤ fmOp n ∧ fmOp n ≤ 11 ∧ (fmOp n = 11 ↔ n = 11) := by
  match n, h with
  | 0, _ | 1, _ | 2, _ | 3, _ | 4, _ | 5, _ | 6, _ | 7, _ | 8, _ | 9, _ | 10, _ | 11, _ => decide

/-- What 'one' leaves. -/
def OnePost (w : World) (r : Int × Int × Int) (e' : Ending) (w' : World) : Prop := Below w.heap.size w w' ∧ e' = .returned (.tuple #[.int .i64 r.1, .int .i64 r.2.1, .int .i64 r.2.2])

set_option maxRecDepth 100000 in
set_option maxHeartbeats 8000000 in
theorem one_no (h : ByteArray × Int) (ps : List (ByteArray × Int)) (e : Int) (vl : Value) (lb : List (List UInt8 × Int)) (ga : Bool) (v : Value) (w : World) (hsl : DSl w v (h :: ps)) (hix : rowIx h.1.data.toList = none) :
    Calls Tryd.prog 117 #[v, .int .i64 e, vl, .bool ga] w (OnePost w (oneD h ps e lb ga)) := by
  obtain ⟨a, cap, rfl, hcap, hrow⟩ := hsl
  obtain ⟨g, off, rfl, hr⟩ := hrow (by simp)
  obtain ⟨x0, x1⟩ := hr 0 h (by simp)
  simp only [Nat.zero_mul, Nat.add_zero] at x0 x1
  have HF := hide (form_no h.1 w (rowIx_none hix))
  have HR : Hid (oneD h ps e lb ga = (0, 4, h.2)) := by unfold Hid oneD; rw [hix]
  clear hr hrow hix
  go_enter Tryd.func117, Tryd.ntmps117
  go_wp2_with fail
  refine (unhide HF).mono ?_
  rintro e1 w' ⟨rfl, hw'⟩
  obtain rfl := hw'.symm
  go_wp2_with fail
  refine still_all (by kernel_rfl) (by kernel_rfl) ?_
  repeat still_step
  refine wpStill_nil ?_
  go_wp2_with fail
  refine bodyPost_ret (v := .tuple #[.int .i64 0, .int .i64 4, .int .i64 h.2]) (by simp [results, Tryd.results117, go_sem]) rfl ?_
  unfold OnePost
  rw [HR.out]
  exact ⟨(Below.refl _ _).drew, rfl⟩

set_option maxRecDepth 100000 in
set_option maxHeartbeats 20000000 in
theorem one_yes (n : Nat) (hn : n < 12) (h : ByteArray × Int) (ps : List (ByteArray × Int)) (e : Int) (B : Nat) (vl : Value) (lb : List (List UInt8 × Int)) (ga : Bool) (v : Value) (w : World) (hsl : DSl w v (h :: ps)) (hix : rowIx h.1.data.toList = some n) (hl : LbAt w B vl lb) (hll : lb.length ≤ 5000) (hlb : ∀ p ∈ lb, 0 ≤ p.2 ∧ p.2 ≤ 128)
    (hts : ∀ p ∈ ps, Val p.1 ∧ p.1.size ≤ 2000) (hpl : ps.length ≤ 5000) :
    Calls Tryd.prog 117 #[v, .int .i64 e, vl, .bool ga] w (OnePost w (oneD h ps e lb ga)) := by
  obtain ⟨a, cap, rfl, hcap, hrow⟩ := hsl
  obtain ⟨g, off, rfl, hr⟩ := hrow (by simp)
  obtain ⟨x0, x1⟩ := hr 0 h (by simp)
  simp only [Nat.zero_mul, Nat.add_zero] at x0 x1
  have HRow : Hid (∀ (k : Nat) (p : ByteArray × Int), ps[k]? = some p → w.cell? ⟨g, off + (k + 1) * 2, none⟩ = some (.string p.1) ∧ w.cell? ⟨g, off + (k + 1) * 2 + 1, none⟩ = some (.int .i64 p.2)) := fun k p hk => hr (k + 1) p (by simpa using hk)
  obtain ⟨_, hnm⟩ := rowIx_some hix
  have HF := hide (form_yes n w hn)
  have htx : h.1 = ⟨(rowNm n).toArray⟩ := ba_ext hnm
  rw [← htx] at HF
  have HR : Hid (oneD h ps e lb ga = oneGo e lb ga (fmPt n) ps (w0D n) 0) := by unfold Hid oneD; rw [hix]
  have hgw : g < w.heap.size := block_lt_of_cell x0
  obtain ⟨o0, o1, o11⟩ := fmOp_bd n hn
  have hsz : (⟨(fmPt n).toArray⟩ : ByteArray).size = (fmPt n).length := by simp [ByteArray.size]
  have hpt3 := fmPt_len n
  have HL := hide hl; have HLb := hide hlb; have HTs := hide hts
  have HO11 := hide o11
  clear hr hrow hix hnm htx hl hlb hts o11
  go_enter Tryd.func117, Tryd.ntmps117
  go_wp2_with fail
  refine (unhide HF).mono ?_
  rintro e1 w' ⟨rfl, hw'⟩
  obtain rfl := hw'.symm
  clear HF x0 x1
  by_cases h11 : n = 11
  · have HW0 : Hid (w0D n = 0) := by unfold Hid w0D; rw [if_pos h11]
    have ho11 : fmOp n = 11 := HO11.out.2 h11
    clear h11
    go_wp2_with fail
    go_loopw [13, 14, 15] (fun wv lv iv wr => ∃ (k : Nat) (wd lost : Int), k ≤ (fmPt n).length ∧ k ≤ ps.length ∧ iv = .int .i64 k ∧ wv = .int .i64 wd ∧ lv = .int .i64 lost ∧ -10000000000 * (k + 1 : Int) ≤ wd ∧ wd ≤ 10000000000 * (k + 1 : Int) ∧ Below w.heap.size w wr ∧ Hid (oneGo e lb ga ((fmPt n).drop k) (ps.drop k) wd lost = oneGo e lb ga (fmPt n) ps (w0D n) 0)) (fun _ _ iv _ => (fmPt n).length - (intOf iv).toNat)
    case atStart => exact ⟨0, w0D n, 0, Nat.zero_le _, Nat.zero_le _, rfl, by rw [HW0.out], rfl, by rw [HW0.out]; omega, by rw [HW0.out]; omega, Below.refl _ _, rfl⟩
    case round =>
      obtain ⟨k, wd, lost, hk, hkp, rfl, rfl, rfl, wd0, wd1, hbl, HG⟩ := hrel
      have HBl := hide hbl
      have hwz := hbl.size
      by_cases hlt : k < (fmPt n).length
      · have hlt' : (k : Int) < ((fmPt n).length : Int) := by omega
        obtain ⟨c, hc⟩ : ∃ c, (fmPt n)[k]? = some c := ⟨(fmPt n)[k], by simp [hlt]⟩
        have HDc : Hid ((fmPt n).drop k = c :: (fmPt n).drop (k + 1)) := by
          unfold Hid
          rw [List.drop_eq_getElem_cons hlt]
          rw [List.getElem?_eq_getElem hlt] at hc
          rw [Option.some.inj hc]
        by_cases hlp : k < ps.length
        · have hlp' : ¬ (ps.length : Int) + 1 ≤ (k : Int) + 1 := by omega
          have hlp2 : (k : Int) + 1 < (ps.length : Int) + 1 := by omega
          have HDp : Hid (ps.drop k = ps[k] :: ps.drop (k + 1)) := List.drop_eq_getElem_cons hlp
          obtain ⟨y0, y1⟩ := HRow.out k ps[k] (by simp [hlp])
          have hT := HTs.out ps[k] (by simp)
          generalize ps[k] = t at *
          obtain ⟨tx, tc⟩ := t
          simp only at y0 y1 hT
          have z0 := (below_cell' hbl g _ hgw).trans y0
          have z1 := (below_cell' hbl g _ hgw).trans y1
          have hgr : g < wr.heap.size := by omega
          have hto : ((k : Int) + 1).toNat = k + 1 := by omega
          have hix : ∀ h, (⟨(fmPt n).toArray⟩ : ByteArray)[k]'h = c := fun h => by
            have : (fmPt n)[k]'hlt = c := by rw [List.getElem?_eq_getElem hlt] at hc; exact Option.some.inj hc
            exact this
          have HRg := hide (fun w' => rregister_any tx w' hT.2)
          have hLr : LbAt (wr.alloc (.cells #[.string tx, .int .i64 tc] 159)) B vl lb := own_grow HL.out ((hbl.alloc hwz _).mono (Nat.le_refl _))
          have HN1 := hide (rnumber_any tx 4095 B vl lb ga _ hT.2 hT.1 hLr hll (fun p hp => (HLb.out p hp).1))
          have HN2 := hide (rnumber_any tx 4294967295 B vl lb ga _ hT.2 hT.1 hLr hll (fun p hp => (HLb.out p hp).1))
          obtain ⟨r0, r1⟩ := regD_bd tx.data.toList
          obtain ⟨p0, p1⟩ := numD_bd 4095 (by decide) (by decide) lb ga tx HLb.out
          obtain ⟨s0, s1⟩ := numD_bd 4294967295 (by decide) (by decide) lb ga tx HLb.out
          have hkind := fmPt_kind n k c hc
          have HPd : Hid (partD c lb ga tx = if c = 110 then numD 4095 lb ga tx else if c = 118 then numD 4294967295 lb ga tx else regD tx.data.toList) := rfl
          generalize regD tx.data.toList = rg at *
          generalize numD 4095 lb ga tx = n1 at *
          generalize numD 4294967295 lb ga tx = n2 at *
          have hstep := HG.out
          rw [HDc.out, HDp.out, oneGo] at hstep
          simp only at hstep
          rw [HPd.out] at hstep
          have HS := hide hstep
          clear hstep HG HDc HDp HPd hLr hT y0 y1 hc hbl
          rcases hkind with rfl | rfl | rfl | rfl | rfl
          · have hP : (if (97 : UInt8) = 110 then n1 else if (97 : UInt8) = 118 then n2 else rg) = rg := by rw [if_neg (by decide), if_neg (by decide)]
            have hU : unitD 97 = 1048576 := rfl
            have HS2 := HS.out
            rw [hP, hU] at HS2
            have HS3 := hide HS2
            clear HS2 HS hP hU
            by_cases hm1 : rg = -1
            · have HS4 := HS3.out
              rw [if_pos hm1] at HS4
              replace HS4 := hide HS4
              clear HS3
              subst hm1
              go_wp2_with fail
              refine (unhide HRg _).mono ?_
              rintro e1 w' ⟨rfl, hw'⟩
              obtain rfl := hw'.symm
              go_wp2_with fail
              refine (unhide HN1).mono ?_
              rintro e1 w' ⟨rfl, hw'⟩
              obtain rfl := hw'.symm
              go_wp2_with fail
              refine (unhide HN2).mono ?_
              rintro e1 w' ⟨rfl, hw'⟩
              obtain rfl := hw'.symm
              go_wp2_with fail
              refine still_all (by kernel_rfl) (by kernel_rfl) ?_
              repeat still_step
              refine wpStill_nil ?_
              go_wp2_with fail
              refine bodyPost_ret (v := .tuple #[.int .i64 0, .int .i64 4, .int .i64 tc]) (by simp [results, Tryd.results117, go_sem]) rfl ?_
              unfold OnePost
              rw [HR.out, ← HS4.out]
              exact ⟨(HBl.out.alloc hwz _).drew, rfl⟩
            · have HS4 := HS3.out
              rw [if_neg hm1] at HS4
              clear HS3
              have hm1b : (rg == -1) = false := by rw [beq_eq_false_iff_ne]; exact hm1
              rw [if_neg (by omega)] at HS4
              replace HS4 := hide HS4
              have hm2b : (rg == -2) = false := by rw [beq_eq_false_iff_ne]; omega
              go_wp2_with fail
              refine (unhide HRg _).mono ?_
              rintro e1 w' ⟨rfl, hw'⟩
              obtain rfl := hw'.symm
              go_wp2_with fail
              refine (unhide HN1).mono ?_
              rintro e1 w' ⟨rfl, hw'⟩
              obtain rfl := hw'.symm
              go_wp2_with fail
              refine (unhide HN2).mono ?_
              rintro e1 w' ⟨rfl, hw'⟩
              obtain rfl := hw'.symm
              go_wp2_with fail
              go_roundw
              case rel => exact ⟨k + 1, wd + rg * 1048576, lost, by omega, by omega, by go_num, by go_num, rfl, by omega, by omega, HBl.out.alloc hwz _, HS4⟩
              case measure => simp [intOf]; omega
          · have hP : (if (98 : UInt8) = 110 then n1 else if (98 : UInt8) = 118 then n2 else rg) = rg := by rw [if_neg (by decide), if_neg (by decide)]
            have hU : unitD 98 = 65536 := rfl
            have HS2 := HS.out
            rw [hP, hU] at HS2
            have HS3 := hide HS2
            clear HS2 HS hP hU
            by_cases hm1 : rg = -1
            · have HS4 := HS3.out
              rw [if_pos hm1] at HS4
              replace HS4 := hide HS4
              clear HS3
              subst hm1
              go_wp2_with fail
              refine (unhide HRg _).mono ?_
              rintro e1 w' ⟨rfl, hw'⟩
              obtain rfl := hw'.symm
              go_wp2_with fail
              refine (unhide HN1).mono ?_
              rintro e1 w' ⟨rfl, hw'⟩
              obtain rfl := hw'.symm
              go_wp2_with fail
              refine (unhide HN2).mono ?_
              rintro e1 w' ⟨rfl, hw'⟩
              obtain rfl := hw'.symm
              go_wp2_with fail
              refine still_all (by kernel_rfl) (by kernel_rfl) ?_
              repeat still_step
              refine wpStill_nil ?_
              go_wp2_with fail
              refine bodyPost_ret (v := .tuple #[.int .i64 0, .int .i64 4, .int .i64 tc]) (by simp [results, Tryd.results117, go_sem]) rfl ?_
              unfold OnePost
              rw [HR.out, ← HS4.out]
              exact ⟨(HBl.out.alloc hwz _).drew, rfl⟩
            · have HS4 := HS3.out
              rw [if_neg hm1] at HS4
              clear HS3
              have hm1b : (rg == -1) = false := by rw [beq_eq_false_iff_ne]; exact hm1
              rw [if_neg (by omega)] at HS4
              replace HS4 := hide HS4
              have hm2b : (rg == -2) = false := by rw [beq_eq_false_iff_ne]; omega
              go_wp2_with fail
              refine (unhide HRg _).mono ?_
              rintro e1 w' ⟨rfl, hw'⟩
              obtain rfl := hw'.symm
              go_wp2_with fail
              refine (unhide HN1).mono ?_
              rintro e1 w' ⟨rfl, hw'⟩
              obtain rfl := hw'.symm
              go_wp2_with fail
              refine (unhide HN2).mono ?_
              rintro e1 w' ⟨rfl, hw'⟩
              obtain rfl := hw'.symm
              go_wp2_with fail
              go_roundw
              case rel => exact ⟨k + 1, wd + rg * 65536, lost, by omega, by omega, by go_num, by go_num, rfl, by omega, by omega, HBl.out.alloc hwz _, HS4⟩
              case measure => simp [intOf]; omega
          · have hP : (if (99 : UInt8) = 110 then n1 else if (99 : UInt8) = 118 then n2 else rg) = rg := by rw [if_neg (by decide), if_neg (by decide)]
            have hU : unitD 99 = 4096 := rfl
            have HS2 := HS.out
            rw [hP, hU] at HS2
            have HS3 := hide HS2
            clear HS2 HS hP hU
            by_cases hm1 : rg = -1
            · have HS4 := HS3.out
              rw [if_pos hm1] at HS4
              replace HS4 := hide HS4
              clear HS3
              subst hm1
              go_wp2_with fail
              refine (unhide HRg _).mono ?_
              rintro e1 w' ⟨rfl, hw'⟩
              obtain rfl := hw'.symm
              go_wp2_with fail
              refine (unhide HN1).mono ?_
              rintro e1 w' ⟨rfl, hw'⟩
              obtain rfl := hw'.symm
              go_wp2_with fail
              refine (unhide HN2).mono ?_
              rintro e1 w' ⟨rfl, hw'⟩
              obtain rfl := hw'.symm
              go_wp2_with fail
              refine still_all (by kernel_rfl) (by kernel_rfl) ?_
              repeat still_step
              refine wpStill_nil ?_
              go_wp2_with fail
              refine bodyPost_ret (v := .tuple #[.int .i64 0, .int .i64 4, .int .i64 tc]) (by simp [results, Tryd.results117, go_sem]) rfl ?_
              unfold OnePost
              rw [HR.out, ← HS4.out]
              exact ⟨(HBl.out.alloc hwz _).drew, rfl⟩
            · have HS4 := HS3.out
              rw [if_neg hm1] at HS4
              clear HS3
              have hm1b : (rg == -1) = false := by rw [beq_eq_false_iff_ne]; exact hm1
              rw [if_neg (by omega)] at HS4
              replace HS4 := hide HS4
              have hm2b : (rg == -2) = false := by rw [beq_eq_false_iff_ne]; omega
              go_wp2_with fail
              refine (unhide HRg _).mono ?_
              rintro e1 w' ⟨rfl, hw'⟩
              obtain rfl := hw'.symm
              go_wp2_with fail
              refine (unhide HN1).mono ?_
              rintro e1 w' ⟨rfl, hw'⟩
              obtain rfl := hw'.symm
              go_wp2_with fail
              refine (unhide HN2).mono ?_
              rintro e1 w' ⟨rfl, hw'⟩
              obtain rfl := hw'.symm
              go_wp2_with fail
              go_roundw
              case rel => exact ⟨k + 1, wd + rg * 4096, lost, by omega, by omega, by go_num, by go_num, rfl, by omega, by omega, HBl.out.alloc hwz _, HS4⟩
              case measure => simp [intOf]; omega
          · have hP : (if (110 : UInt8) = 110 then n1 else if (110 : UInt8) = 118 then n2 else rg) = n1 := by rw [if_pos rfl]
            have hU : unitD 110 = 1 := rfl
            have HS2 := HS.out
            rw [hP, hU] at HS2
            have HS3 := hide HS2
            clear HS2 HS hP hU
            by_cases hm1 : n1 = -1
            · have HS4 := HS3.out
              rw [if_pos hm1] at HS4
              replace HS4 := hide HS4
              clear HS3
              subst hm1
              go_wp2_with fail
              refine (unhide HRg _).mono ?_
              rintro e1 w' ⟨rfl, hw'⟩
              obtain rfl := hw'.symm
              go_wp2_with fail
              refine (unhide HN1).mono ?_
              rintro e1 w' ⟨rfl, hw'⟩
              obtain rfl := hw'.symm
              go_wp2_with fail
              refine (unhide HN2).mono ?_
              rintro e1 w' ⟨rfl, hw'⟩
              obtain rfl := hw'.symm
              go_wp2_with fail
              refine still_all (by kernel_rfl) (by kernel_rfl) ?_
              repeat still_step
              refine wpStill_nil ?_
              go_wp2_with fail
              refine bodyPost_ret (v := .tuple #[.int .i64 0, .int .i64 4, .int .i64 tc]) (by simp [results, Tryd.results117, go_sem]) rfl ?_
              unfold OnePost
              rw [HR.out, ← HS4.out]
              exact ⟨(HBl.out.alloc hwz _).drew, rfl⟩
            · have HS4 := HS3.out
              rw [if_neg hm1] at HS4
              clear HS3
              have hm1b : (n1 == -1) = false := by rw [beq_eq_false_iff_ne]; exact hm1
              by_cases hm2 : n1 = -2
              · by_cases hlo : lost = 0
                · rw [if_pos ⟨hm2, hlo⟩] at HS4
                  replace HS4 := hide HS4
                  subst hm2 hlo
                  go_wp2_with fail
                  refine (unhide HRg _).mono ?_
                  rintro e1 w' ⟨rfl, hw'⟩
                  obtain rfl := hw'.symm
                  go_wp2_with fail
                  refine (unhide HN1).mono ?_
                  rintro e1 w' ⟨rfl, hw'⟩
                  obtain rfl := hw'.symm
                  go_wp2_with fail
                  refine (unhide HN2).mono ?_
                  rintro e1 w' ⟨rfl, hw'⟩
                  obtain rfl := hw'.symm
                  go_wp2_with fail
                  go_roundw
                  case rel => exact ⟨k + 1, wd + (-2) * 1, tc, by omega, by omega, by go_num, by go_num, rfl, by omega, by omega, HBl.out.alloc hwz _, HS4⟩
                  case measure => simp [intOf]; omega
                · rw [if_neg (by omega)] at HS4
                  replace HS4 := hide HS4
                  have hlob : (lost == 0) = false := by rw [beq_eq_false_iff_ne]; exact hlo
                  subst hm2
                  go_wp2_with fail
                  refine (unhide HRg _).mono ?_
                  rintro e1 w' ⟨rfl, hw'⟩
                  obtain rfl := hw'.symm
                  go_wp2_with fail
                  refine (unhide HN1).mono ?_
                  rintro e1 w' ⟨rfl, hw'⟩
                  obtain rfl := hw'.symm
                  go_wp2_with fail
                  refine (unhide HN2).mono ?_
                  rintro e1 w' ⟨rfl, hw'⟩
                  obtain rfl := hw'.symm
                  go_wp2_with fail
                  go_roundw
                  case rel => exact ⟨k + 1, wd + (-2) * 1, lost, by omega, by omega, by go_num, by go_num, rfl, by omega, by omega, HBl.out.alloc hwz _, HS4⟩
                  case measure => simp [intOf]; omega
              · rw [if_neg (by omega)] at HS4
                replace HS4 := hide HS4
                have hm2b : (n1 == -2) = false := by rw [beq_eq_false_iff_ne]; exact hm2
                go_wp2_with fail
                refine (unhide HRg _).mono ?_
                rintro e1 w' ⟨rfl, hw'⟩
                obtain rfl := hw'.symm
                go_wp2_with fail
                refine (unhide HN1).mono ?_
                rintro e1 w' ⟨rfl, hw'⟩
                obtain rfl := hw'.symm
                go_wp2_with fail
                refine (unhide HN2).mono ?_
                rintro e1 w' ⟨rfl, hw'⟩
                obtain rfl := hw'.symm
                go_wp2_with fail
                go_roundw
                case rel => exact ⟨k + 1, wd + n1 * 1, lost, by omega, by omega, by go_num, by go_num, rfl, by omega, by omega, HBl.out.alloc hwz _, HS4⟩
                case measure => simp [intOf]; omega
          · have hP : (if (118 : UInt8) = 110 then n1 else if (118 : UInt8) = 118 then n2 else rg) = n2 := by rw [if_neg (by decide), if_pos rfl]
            have hU : unitD 118 = 1 := rfl
            have HS2 := HS.out
            rw [hP, hU] at HS2
            have HS3 := hide HS2
            clear HS2 HS hP hU
            by_cases hm1 : n2 = -1
            · have HS4 := HS3.out
              rw [if_pos hm1] at HS4
              replace HS4 := hide HS4
              clear HS3
              subst hm1
              go_wp2_with fail
              refine (unhide HRg _).mono ?_
              rintro e1 w' ⟨rfl, hw'⟩
              obtain rfl := hw'.symm
              go_wp2_with fail
              refine (unhide HN1).mono ?_
              rintro e1 w' ⟨rfl, hw'⟩
              obtain rfl := hw'.symm
              go_wp2_with fail
              refine (unhide HN2).mono ?_
              rintro e1 w' ⟨rfl, hw'⟩
              obtain rfl := hw'.symm
              go_wp2_with fail
              refine still_all (by kernel_rfl) (by kernel_rfl) ?_
              repeat still_step
              refine wpStill_nil ?_
              go_wp2_with fail
              refine bodyPost_ret (v := .tuple #[.int .i64 0, .int .i64 4, .int .i64 tc]) (by simp [results, Tryd.results117, go_sem]) rfl ?_
              unfold OnePost
              rw [HR.out, ← HS4.out]
              exact ⟨(HBl.out.alloc hwz _).drew, rfl⟩
            · have HS4 := HS3.out
              rw [if_neg hm1] at HS4
              clear HS3
              have hm1b : (n2 == -1) = false := by rw [beq_eq_false_iff_ne]; exact hm1
              by_cases hm2 : n2 = -2
              · by_cases hlo : lost = 0
                · rw [if_pos ⟨hm2, hlo⟩] at HS4
                  replace HS4 := hide HS4
                  subst hm2 hlo
                  go_wp2_with fail
                  refine (unhide HRg _).mono ?_
                  rintro e1 w' ⟨rfl, hw'⟩
                  obtain rfl := hw'.symm
                  go_wp2_with fail
                  refine (unhide HN1).mono ?_
                  rintro e1 w' ⟨rfl, hw'⟩
                  obtain rfl := hw'.symm
                  go_wp2_with fail
                  refine (unhide HN2).mono ?_
                  rintro e1 w' ⟨rfl, hw'⟩
                  obtain rfl := hw'.symm
                  go_wp2_with fail
                  go_roundw
                  case rel => exact ⟨k + 1, wd + (-2) * 1, tc, by omega, by omega, by go_num, by go_num, rfl, by omega, by omega, HBl.out.alloc hwz _, HS4⟩
                  case measure => simp [intOf]; omega
                · rw [if_neg (by omega)] at HS4
                  replace HS4 := hide HS4
                  have hlob : (lost == 0) = false := by rw [beq_eq_false_iff_ne]; exact hlo
                  subst hm2
                  go_wp2_with fail
                  refine (unhide HRg _).mono ?_
                  rintro e1 w' ⟨rfl, hw'⟩
                  obtain rfl := hw'.symm
                  go_wp2_with fail
                  refine (unhide HN1).mono ?_
                  rintro e1 w' ⟨rfl, hw'⟩
                  obtain rfl := hw'.symm
                  go_wp2_with fail
                  refine (unhide HN2).mono ?_
                  rintro e1 w' ⟨rfl, hw'⟩
                  obtain rfl := hw'.symm
                  go_wp2_with fail
                  go_roundw
                  case rel => exact ⟨k + 1, wd + (-2) * 1, lost, by omega, by omega, by go_num, by go_num, rfl, by omega, by omega, HBl.out.alloc hwz _, HS4⟩
                  case measure => simp [intOf]; omega
              · rw [if_neg (by omega)] at HS4
                replace HS4 := hide HS4
                have hm2b : (n2 == -2) = false := by rw [beq_eq_false_iff_ne]; exact hm2
                go_wp2_with fail
                refine (unhide HRg _).mono ?_
                rintro e1 w' ⟨rfl, hw'⟩
                obtain rfl := hw'.symm
                go_wp2_with fail
                refine (unhide HN1).mono ?_
                rintro e1 w' ⟨rfl, hw'⟩
                obtain rfl := hw'.symm
                go_wp2_with fail
                refine (unhide HN2).mono ?_
                rintro e1 w' ⟨rfl, hw'⟩
                obtain rfl := hw'.symm
                go_wp2_with fail
                go_roundw
                case rel => exact ⟨k + 1, wd + n2 * 1, lost, by omega, by omega, by go_num, by go_num, rfl, by omega, by omega, HBl.out.alloc hwz _, HS4⟩
                case measure => simp [intOf]; omega
        · have hkp2 : k = ps.length := by omega
          subst hkp2
          have HS : Hid (oneGo e lb ga (fmPt n) ps (w0D n) 0 = (0, 4, e)) := by
            unfold Hid
            rw [← HG.out, HDc.out, List.drop_of_length_le (Nat.le_refl _), oneGo]
          clear HG HDc hc hbl
          go_wp2_with fail
          refine bodyPost_ret (v := .tuple #[.int .i64 0, .int .i64 4, .int .i64 e]) (by simp [results, Tryd.results117, go_sem]) rfl ?_
          unfold OnePost
          rw [HR.out, HS.out]
          exact ⟨HBl.out, rfl⟩
      · have hkn : k = (fmPt n).length := by omega
        have hdr : (fmPt n).drop k = [] := List.drop_of_length_le (by omega)
        have hlt' : ¬ (k : Int) < ((fmPt n).length : Int) := by omega
        by_cases hmore : (fmPt n).length < ps.length
        · have hm' : ((fmPt n).length : Int) + 1 < (ps.length : Int) + 1 := by omega
          have HDp : Hid (ps.drop k = ps[(fmPt n).length] :: ps.drop ((fmPt n).length + 1)) := by
            unfold Hid
            rw [hkn]
            exact List.drop_eq_getElem_cons hmore
          obtain ⟨y0, y1⟩ := HRow.out (fmPt n).length ps[(fmPt n).length] (by simp [hmore])
          generalize ps[(fmPt n).length] = t at *
          obtain ⟨tx, tc⟩ := t
          simp only at y0 y1
          have z1 := (below_cell' hbl g _ hgw).trans y1
          have HS : Hid (oneGo e lb ga (fmPt n) ps (w0D n) 0 = (0, 4, tc)) := by
            unfold Hid
            rw [← HG.out, hdr, HDp.out, oneGo]
          have hwr : IntKind.i64.wrap (((fmPt n).length : Int) + 1) = ((fmPt n).length : Int) + 1 := IntWalk.i64_in _ ⟨by omega, by omega⟩
          have hto2 : (((fmPt n).length : Int) + 1).toNat = (fmPt n).length + 1 := by omega
          clear HG HDp hbl hdr y0 y1 hkn
          go_wp2_with fail
          go_quiet (fail)
          go_wp2_with fail
          refine bodyPost_ret (v := .tuple #[.int .i64 0, .int .i64 4, .int .i64 tc]) (by simp [results, Tryd.results117, go_sem]) rfl ?_
          unfold OnePost
          rw [HR.out, HS.out]
          exact ⟨below_drewN HBl.out nq, rfl⟩
        · have hm' : ¬ ((fmPt n).length : Int) + 1 < (ps.length : Int) + 1 := by omega
          have hdp : ps.drop k = [] := List.drop_of_length_le (by omega)
          by_cases hlo : 0 < lost
          · have HS : Hid (oneGo e lb ga (fmPt n) ps (w0D n) 0 = (0, 7, lost)) := by
              unfold Hid
              rw [← HG.out, hdr, hdp, oneGo, if_pos hlo]
            clear HG hbl hdr hdp hkn
            go_wp2_with fail
            refine bodyPost_ret (v := .tuple #[.int .i64 0, .int .i64 7, .int .i64 lost]) (by simp [results, Tryd.results117, go_sem]) rfl ?_
            unfold OnePost
            rw [HR.out, HS.out]
            exact ⟨HBl.out, rfl⟩
          · have hlo' : ¬ (0 : Int) < lost := hlo
            have HS : Hid (oneGo e lb ga (fmPt n) ps (w0D n) 0 = (wd, 0, 0)) := by
              unfold Hid
              rw [← HG.out, hdr, hdp, oneGo, if_neg hlo]
            clear HG hbl hdr hdp hkn
            go_wp2_with fail
            refine bodyPost_ret (v := .tuple #[.int .i64 wd, .int .i64 0, .int .i64 0]) (by simp [results, Tryd.results117, go_sem]) rfl ?_
            unfold OnePost
            rw [HR.out, HS.out]
            exact ⟨HBl.out, rfl⟩

  · have ho11 : ¬ fmOp n = 11 := fun e => h11 (HO11.out.1 e)
    have HW0 : Hid (w0D n = fmOp n * 16777216) := by unfold Hid w0D; rw [if_neg h11]
    have hb11 : (fmOp n == 11) = false := by rw [beq_eq_false_iff_ne]; exact ho11
    have hneg : ¬ fmOp n < 0 := by omega
    clear h11 ho11
    go_wp2_with fail
    go_loopw [13, 14, 15] (fun wv lv iv wr => ∃ (k : Nat) (wd lost : Int), k ≤ (fmPt n).length ∧ k ≤ ps.length ∧ iv = .int .i64 k ∧ wv = .int .i64 wd ∧ lv = .int .i64 lost ∧ -10000000000 * (k + 1 : Int) ≤ wd ∧ wd ≤ 10000000000 * (k + 1 : Int) ∧ Below w.heap.size w wr ∧ Hid (oneGo e lb ga ((fmPt n).drop k) (ps.drop k) wd lost = oneGo e lb ga (fmPt n) ps (w0D n) 0)) (fun _ _ iv _ => (fmPt n).length - (intOf iv).toNat)
    case atStart => exact ⟨0, w0D n, 0, Nat.zero_le _, Nat.zero_le _, rfl, by rw [HW0.out], rfl, by rw [HW0.out]; omega, by rw [HW0.out]; omega, Below.refl _ _, rfl⟩
    case round =>
      obtain ⟨k, wd, lost, hk, hkp, rfl, rfl, rfl, wd0, wd1, hbl, HG⟩ := hrel
      have HBl := hide hbl
      have hwz := hbl.size
      by_cases hlt : k < (fmPt n).length
      · have hlt' : (k : Int) < ((fmPt n).length : Int) := by omega
        obtain ⟨c, hc⟩ : ∃ c, (fmPt n)[k]? = some c := ⟨(fmPt n)[k], by simp [hlt]⟩
        have HDc : Hid ((fmPt n).drop k = c :: (fmPt n).drop (k + 1)) := by
          unfold Hid
          rw [List.drop_eq_getElem_cons hlt]
          rw [List.getElem?_eq_getElem hlt] at hc
          rw [Option.some.inj hc]
        by_cases hlp : k < ps.length
        · have hlp' : ¬ (ps.length : Int) + 1 ≤ (k : Int) + 1 := by omega
          have hlp2 : (k : Int) + 1 < (ps.length : Int) + 1 := by omega
          have HDp : Hid (ps.drop k = ps[k] :: ps.drop (k + 1)) := List.drop_eq_getElem_cons hlp
          obtain ⟨y0, y1⟩ := HRow.out k ps[k] (by simp [hlp])
          have hT := HTs.out ps[k] (by simp)
          generalize ps[k] = t at *
          obtain ⟨tx, tc⟩ := t
          simp only at y0 y1 hT
          have z0 := (below_cell' hbl g _ hgw).trans y0
          have z1 := (below_cell' hbl g _ hgw).trans y1
          have hgr : g < wr.heap.size := by omega
          have hto : ((k : Int) + 1).toNat = k + 1 := by omega
          have hix : ∀ h, (⟨(fmPt n).toArray⟩ : ByteArray)[k]'h = c := fun h => by
            have : (fmPt n)[k]'hlt = c := by rw [List.getElem?_eq_getElem hlt] at hc; exact Option.some.inj hc
            exact this
          have HRg := hide (fun w' => rregister_any tx w' hT.2)
          have hLr : LbAt (wr.alloc (.cells #[.string tx, .int .i64 tc] 159)) B vl lb := own_grow HL.out ((hbl.alloc hwz _).mono (Nat.le_refl _))
          have HN1 := hide (rnumber_any tx 4095 B vl lb ga _ hT.2 hT.1 hLr hll (fun p hp => (HLb.out p hp).1))
          have HN2 := hide (rnumber_any tx 4294967295 B vl lb ga _ hT.2 hT.1 hLr hll (fun p hp => (HLb.out p hp).1))
          obtain ⟨r0, r1⟩ := regD_bd tx.data.toList
          obtain ⟨p0, p1⟩ := numD_bd 4095 (by decide) (by decide) lb ga tx HLb.out
          obtain ⟨s0, s1⟩ := numD_bd 4294967295 (by decide) (by decide) lb ga tx HLb.out
          have hkind := fmPt_kind n k c hc
          have HPd : Hid (partD c lb ga tx = if c = 110 then numD 4095 lb ga tx else if c = 118 then numD 4294967295 lb ga tx else regD tx.data.toList) := rfl
          generalize regD tx.data.toList = rg at *
          generalize numD 4095 lb ga tx = n1 at *
          generalize numD 4294967295 lb ga tx = n2 at *
          have hstep := HG.out
          rw [HDc.out, HDp.out, oneGo] at hstep
          simp only at hstep
          rw [HPd.out] at hstep
          have HS := hide hstep
          clear hstep HG HDc HDp HPd hLr hT y0 y1 hc hbl
          rcases hkind with rfl | rfl | rfl | rfl | rfl
          · have hP : (if (97 : UInt8) = 110 then n1 else if (97 : UInt8) = 118 then n2 else rg) = rg := by rw [if_neg (by decide), if_neg (by decide)]
            have hU : unitD 97 = 1048576 := rfl
            have HS2 := HS.out
            rw [hP, hU] at HS2
            have HS3 := hide HS2
            clear HS2 HS hP hU
            by_cases hm1 : rg = -1
            · have HS4 := HS3.out
              rw [if_pos hm1] at HS4
              replace HS4 := hide HS4
              clear HS3
              subst hm1
              go_wp2_with fail
              refine (unhide HRg _).mono ?_
              rintro e1 w' ⟨rfl, hw'⟩
              obtain rfl := hw'.symm
              go_wp2_with fail
              refine (unhide HN1).mono ?_
              rintro e1 w' ⟨rfl, hw'⟩
              obtain rfl := hw'.symm
              go_wp2_with fail
              refine (unhide HN2).mono ?_
              rintro e1 w' ⟨rfl, hw'⟩
              obtain rfl := hw'.symm
              go_wp2_with fail
              refine still_all (by kernel_rfl) (by kernel_rfl) ?_
              repeat still_step
              refine wpStill_nil ?_
              go_wp2_with fail
              refine bodyPost_ret (v := .tuple #[.int .i64 0, .int .i64 4, .int .i64 tc]) (by simp [results, Tryd.results117, go_sem]) rfl ?_
              unfold OnePost
              rw [HR.out, ← HS4.out]
              exact ⟨(HBl.out.alloc hwz _).drew, rfl⟩
            · have HS4 := HS3.out
              rw [if_neg hm1] at HS4
              clear HS3
              have hm1b : (rg == -1) = false := by rw [beq_eq_false_iff_ne]; exact hm1
              rw [if_neg (by omega)] at HS4
              replace HS4 := hide HS4
              have hm2b : (rg == -2) = false := by rw [beq_eq_false_iff_ne]; omega
              go_wp2_with fail
              refine (unhide HRg _).mono ?_
              rintro e1 w' ⟨rfl, hw'⟩
              obtain rfl := hw'.symm
              go_wp2_with fail
              refine (unhide HN1).mono ?_
              rintro e1 w' ⟨rfl, hw'⟩
              obtain rfl := hw'.symm
              go_wp2_with fail
              refine (unhide HN2).mono ?_
              rintro e1 w' ⟨rfl, hw'⟩
              obtain rfl := hw'.symm
              go_wp2_with fail
              go_roundw
              case rel => exact ⟨k + 1, wd + rg * 1048576, lost, by omega, by omega, by go_num, by go_num, rfl, by omega, by omega, HBl.out.alloc hwz _, HS4⟩
              case measure => simp [intOf]; omega
          · have hP : (if (98 : UInt8) = 110 then n1 else if (98 : UInt8) = 118 then n2 else rg) = rg := by rw [if_neg (by decide), if_neg (by decide)]
            have hU : unitD 98 = 65536 := rfl
            have HS2 := HS.out
            rw [hP, hU] at HS2
            have HS3 := hide HS2
            clear HS2 HS hP hU
            by_cases hm1 : rg = -1
            · have HS4 := HS3.out
              rw [if_pos hm1] at HS4
              replace HS4 := hide HS4
              clear HS3
              subst hm1
              go_wp2_with fail
              refine (unhide HRg _).mono ?_
              rintro e1 w' ⟨rfl, hw'⟩
              obtain rfl := hw'.symm
              go_wp2_with fail
              refine (unhide HN1).mono ?_
              rintro e1 w' ⟨rfl, hw'⟩
              obtain rfl := hw'.symm
              go_wp2_with fail
              refine (unhide HN2).mono ?_
              rintro e1 w' ⟨rfl, hw'⟩
              obtain rfl := hw'.symm
              go_wp2_with fail
              refine still_all (by kernel_rfl) (by kernel_rfl) ?_
              repeat still_step
              refine wpStill_nil ?_
              go_wp2_with fail
              refine bodyPost_ret (v := .tuple #[.int .i64 0, .int .i64 4, .int .i64 tc]) (by simp [results, Tryd.results117, go_sem]) rfl ?_
              unfold OnePost
              rw [HR.out, ← HS4.out]
              exact ⟨(HBl.out.alloc hwz _).drew, rfl⟩
            · have HS4 := HS3.out
              rw [if_neg hm1] at HS4
              clear HS3
              have hm1b : (rg == -1) = false := by rw [beq_eq_false_iff_ne]; exact hm1
              rw [if_neg (by omega)] at HS4
              replace HS4 := hide HS4
              have hm2b : (rg == -2) = false := by rw [beq_eq_false_iff_ne]; omega
              go_wp2_with fail
              refine (unhide HRg _).mono ?_
              rintro e1 w' ⟨rfl, hw'⟩
              obtain rfl := hw'.symm
              go_wp2_with fail
              refine (unhide HN1).mono ?_
              rintro e1 w' ⟨rfl, hw'⟩
              obtain rfl := hw'.symm
              go_wp2_with fail
              refine (unhide HN2).mono ?_
              rintro e1 w' ⟨rfl, hw'⟩
              obtain rfl := hw'.symm
              go_wp2_with fail
              go_roundw
              case rel => exact ⟨k + 1, wd + rg * 65536, lost, by omega, by omega, by go_num, by go_num, rfl, by omega, by omega, HBl.out.alloc hwz _, HS4⟩
              case measure => simp [intOf]; omega
          · have hP : (if (99 : UInt8) = 110 then n1 else if (99 : UInt8) = 118 then n2 else rg) = rg := by rw [if_neg (by decide), if_neg (by decide)]
            have hU : unitD 99 = 4096 := rfl
            have HS2 := HS.out
            rw [hP, hU] at HS2
            have HS3 := hide HS2
            clear HS2 HS hP hU
            by_cases hm1 : rg = -1
            · have HS4 := HS3.out
              rw [if_pos hm1] at HS4
              replace HS4 := hide HS4
              clear HS3
              subst hm1
              go_wp2_with fail
              refine (unhide HRg _).mono ?_
              rintro e1 w' ⟨rfl, hw'⟩
              obtain rfl := hw'.symm
              go_wp2_with fail
              refine (unhide HN1).mono ?_
              rintro e1 w' ⟨rfl, hw'⟩
              obtain rfl := hw'.symm
              go_wp2_with fail
              refine (unhide HN2).mono ?_
              rintro e1 w' ⟨rfl, hw'⟩
              obtain rfl := hw'.symm
              go_wp2_with fail
              refine still_all (by kernel_rfl) (by kernel_rfl) ?_
              repeat still_step
              refine wpStill_nil ?_
              go_wp2_with fail
              refine bodyPost_ret (v := .tuple #[.int .i64 0, .int .i64 4, .int .i64 tc]) (by simp [results, Tryd.results117, go_sem]) rfl ?_
              unfold OnePost
              rw [HR.out, ← HS4.out]
              exact ⟨(HBl.out.alloc hwz _).drew, rfl⟩
            · have HS4 := HS3.out
              rw [if_neg hm1] at HS4
              clear HS3
              have hm1b : (rg == -1) = false := by rw [beq_eq_false_iff_ne]; exact hm1
              rw [if_neg (by omega)] at HS4
              replace HS4 := hide HS4
              have hm2b : (rg == -2) = false := by rw [beq_eq_false_iff_ne]; omega
              go_wp2_with fail
              refine (unhide HRg _).mono ?_
              rintro e1 w' ⟨rfl, hw'⟩
              obtain rfl := hw'.symm
              go_wp2_with fail
              refine (unhide HN1).mono ?_
              rintro e1 w' ⟨rfl, hw'⟩
              obtain rfl := hw'.symm
              go_wp2_with fail
              refine (unhide HN2).mono ?_
              rintro e1 w' ⟨rfl, hw'⟩
              obtain rfl := hw'.symm
              go_wp2_with fail
              go_roundw
              case rel => exact ⟨k + 1, wd + rg * 4096, lost, by omega, by omega, by go_num, by go_num, rfl, by omega, by omega, HBl.out.alloc hwz _, HS4⟩
              case measure => simp [intOf]; omega
          · have hP : (if (110 : UInt8) = 110 then n1 else if (110 : UInt8) = 118 then n2 else rg) = n1 := by rw [if_pos rfl]
            have hU : unitD 110 = 1 := rfl
            have HS2 := HS.out
            rw [hP, hU] at HS2
            have HS3 := hide HS2
            clear HS2 HS hP hU
            by_cases hm1 : n1 = -1
            · have HS4 := HS3.out
              rw [if_pos hm1] at HS4
              replace HS4 := hide HS4
              clear HS3
              subst hm1
              go_wp2_with fail
              refine (unhide HRg _).mono ?_
              rintro e1 w' ⟨rfl, hw'⟩
              obtain rfl := hw'.symm
              go_wp2_with fail
              refine (unhide HN1).mono ?_
              rintro e1 w' ⟨rfl, hw'⟩
              obtain rfl := hw'.symm
              go_wp2_with fail
              refine (unhide HN2).mono ?_
              rintro e1 w' ⟨rfl, hw'⟩
              obtain rfl := hw'.symm
              go_wp2_with fail
              refine still_all (by kernel_rfl) (by kernel_rfl) ?_
              repeat still_step
              refine wpStill_nil ?_
              go_wp2_with fail
              refine bodyPost_ret (v := .tuple #[.int .i64 0, .int .i64 4, .int .i64 tc]) (by simp [results, Tryd.results117, go_sem]) rfl ?_
              unfold OnePost
              rw [HR.out, ← HS4.out]
              exact ⟨(HBl.out.alloc hwz _).drew, rfl⟩
            · have HS4 := HS3.out
              rw [if_neg hm1] at HS4
              clear HS3
              have hm1b : (n1 == -1) = false := by rw [beq_eq_false_iff_ne]; exact hm1
              by_cases hm2 : n1 = -2
              · by_cases hlo : lost = 0
                · rw [if_pos ⟨hm2, hlo⟩] at HS4
                  replace HS4 := hide HS4
                  subst hm2 hlo
                  go_wp2_with fail
                  refine (unhide HRg _).mono ?_
                  rintro e1 w' ⟨rfl, hw'⟩
                  obtain rfl := hw'.symm
                  go_wp2_with fail
                  refine (unhide HN1).mono ?_
                  rintro e1 w' ⟨rfl, hw'⟩
                  obtain rfl := hw'.symm
                  go_wp2_with fail
                  refine (unhide HN2).mono ?_
                  rintro e1 w' ⟨rfl, hw'⟩
                  obtain rfl := hw'.symm
                  go_wp2_with fail
                  go_roundw
                  case rel => exact ⟨k + 1, wd + (-2) * 1, tc, by omega, by omega, by go_num, by go_num, rfl, by omega, by omega, HBl.out.alloc hwz _, HS4⟩
                  case measure => simp [intOf]; omega
                · rw [if_neg (by omega)] at HS4
                  replace HS4 := hide HS4
                  have hlob : (lost == 0) = false := by rw [beq_eq_false_iff_ne]; exact hlo
                  subst hm2
                  go_wp2_with fail
                  refine (unhide HRg _).mono ?_
                  rintro e1 w' ⟨rfl, hw'⟩
                  obtain rfl := hw'.symm
                  go_wp2_with fail
                  refine (unhide HN1).mono ?_
                  rintro e1 w' ⟨rfl, hw'⟩
                  obtain rfl := hw'.symm
                  go_wp2_with fail
                  refine (unhide HN2).mono ?_
                  rintro e1 w' ⟨rfl, hw'⟩
                  obtain rfl := hw'.symm
                  go_wp2_with fail
                  go_roundw
                  case rel => exact ⟨k + 1, wd + (-2) * 1, lost, by omega, by omega, by go_num, by go_num, rfl, by omega, by omega, HBl.out.alloc hwz _, HS4⟩
                  case measure => simp [intOf]; omega
              · rw [if_neg (by omega)] at HS4
                replace HS4 := hide HS4
                have hm2b : (n1 == -2) = false := by rw [beq_eq_false_iff_ne]; exact hm2
                go_wp2_with fail
                refine (unhide HRg _).mono ?_
                rintro e1 w' ⟨rfl, hw'⟩
                obtain rfl := hw'.symm
                go_wp2_with fail
                refine (unhide HN1).mono ?_
                rintro e1 w' ⟨rfl, hw'⟩
                obtain rfl := hw'.symm
                go_wp2_with fail
                refine (unhide HN2).mono ?_
                rintro e1 w' ⟨rfl, hw'⟩
                obtain rfl := hw'.symm
                go_wp2_with fail
                go_roundw
                case rel => exact ⟨k + 1, wd + n1 * 1, lost, by omega, by omega, by go_num, by go_num, rfl, by omega, by omega, HBl.out.alloc hwz _, HS4⟩
                case measure => simp [intOf]; omega
          · have hP : (if (118 : UInt8) = 110 then n1 else if (118 : UInt8) = 118 then n2 else rg) = n2 := by rw [if_neg (by decide), if_pos rfl]
            have hU : unitD 118 = 1 := rfl
            have HS2 := HS.out
            rw [hP, hU] at HS2
            have HS3 := hide HS2
            clear HS2 HS hP hU
            by_cases hm1 : n2 = -1
            · have HS4 := HS3.out
              rw [if_pos hm1] at HS4
              replace HS4 := hide HS4
              clear HS3
              subst hm1
              go_wp2_with fail
              refine (unhide HRg _).mono ?_
              rintro e1 w' ⟨rfl, hw'⟩
              obtain rfl := hw'.symm
              go_wp2_with fail
              refine (unhide HN1).mono ?_
              rintro e1 w' ⟨rfl, hw'⟩
              obtain rfl := hw'.symm
              go_wp2_with fail
              refine (unhide HN2).mono ?_
              rintro e1 w' ⟨rfl, hw'⟩
              obtain rfl := hw'.symm
              go_wp2_with fail
              refine still_all (by kernel_rfl) (by kernel_rfl) ?_
              repeat still_step
              refine wpStill_nil ?_
              go_wp2_with fail
              refine bodyPost_ret (v := .tuple #[.int .i64 0, .int .i64 4, .int .i64 tc]) (by simp [results, Tryd.results117, go_sem]) rfl ?_
              unfold OnePost
              rw [HR.out, ← HS4.out]
              exact ⟨(HBl.out.alloc hwz _).drew, rfl⟩
            · have HS4 := HS3.out
              rw [if_neg hm1] at HS4
              clear HS3
              have hm1b : (n2 == -1) = false := by rw [beq_eq_false_iff_ne]; exact hm1
              by_cases hm2 : n2 = -2
              · by_cases hlo : lost = 0
                · rw [if_pos ⟨hm2, hlo⟩] at HS4
                  replace HS4 := hide HS4
                  subst hm2 hlo
                  go_wp2_with fail
                  refine (unhide HRg _).mono ?_
                  rintro e1 w' ⟨rfl, hw'⟩
                  obtain rfl := hw'.symm
                  go_wp2_with fail
                  refine (unhide HN1).mono ?_
                  rintro e1 w' ⟨rfl, hw'⟩
                  obtain rfl := hw'.symm
                  go_wp2_with fail
                  refine (unhide HN2).mono ?_
                  rintro e1 w' ⟨rfl, hw'⟩
                  obtain rfl := hw'.symm
                  go_wp2_with fail
                  go_roundw
                  case rel => exact ⟨k + 1, wd + (-2) * 1, tc, by omega, by omega, by go_num, by go_num, rfl, by omega, by omega, HBl.out.alloc hwz _, HS4⟩
                  case measure => simp [intOf]; omega
                · rw [if_neg (by omega)] at HS4
                  replace HS4 := hide HS4
                  have hlob : (lost == 0) = false := by rw [beq_eq_false_iff_ne]; exact hlo
                  subst hm2
                  go_wp2_with fail
                  refine (unhide HRg _).mono ?_
                  rintro e1 w' ⟨rfl, hw'⟩
                  obtain rfl := hw'.symm
                  go_wp2_with fail
                  refine (unhide HN1).mono ?_
                  rintro e1 w' ⟨rfl, hw'⟩
                  obtain rfl := hw'.symm
                  go_wp2_with fail
                  refine (unhide HN2).mono ?_
                  rintro e1 w' ⟨rfl, hw'⟩
                  obtain rfl := hw'.symm
                  go_wp2_with fail
                  go_roundw
                  case rel => exact ⟨k + 1, wd + (-2) * 1, lost, by omega, by omega, by go_num, by go_num, rfl, by omega, by omega, HBl.out.alloc hwz _, HS4⟩
                  case measure => simp [intOf]; omega
              · rw [if_neg (by omega)] at HS4
                replace HS4 := hide HS4
                have hm2b : (n2 == -2) = false := by rw [beq_eq_false_iff_ne]; exact hm2
                go_wp2_with fail
                refine (unhide HRg _).mono ?_
                rintro e1 w' ⟨rfl, hw'⟩
                obtain rfl := hw'.symm
                go_wp2_with fail
                refine (unhide HN1).mono ?_
                rintro e1 w' ⟨rfl, hw'⟩
                obtain rfl := hw'.symm
                go_wp2_with fail
                refine (unhide HN2).mono ?_
                rintro e1 w' ⟨rfl, hw'⟩
                obtain rfl := hw'.symm
                go_wp2_with fail
                go_roundw
                case rel => exact ⟨k + 1, wd + n2 * 1, lost, by omega, by omega, by go_num, by go_num, rfl, by omega, by omega, HBl.out.alloc hwz _, HS4⟩
                case measure => simp [intOf]; omega
        · have hkp2 : k = ps.length := by omega
          subst hkp2
          have HS : Hid (oneGo e lb ga (fmPt n) ps (w0D n) 0 = (0, 4, e)) := by
            unfold Hid
            rw [← HG.out, HDc.out, List.drop_of_length_le (Nat.le_refl _), oneGo]
          clear HG HDc hc hbl
          go_wp2_with fail
          refine bodyPost_ret (v := .tuple #[.int .i64 0, .int .i64 4, .int .i64 e]) (by simp [results, Tryd.results117, go_sem]) rfl ?_
          unfold OnePost
          rw [HR.out, HS.out]
          exact ⟨HBl.out, rfl⟩
      · have hkn : k = (fmPt n).length := by omega
        have hdr : (fmPt n).drop k = [] := List.drop_of_length_le (by omega)
        have hlt' : ¬ (k : Int) < ((fmPt n).length : Int) := by omega
        by_cases hmore : (fmPt n).length < ps.length
        · have hm' : ((fmPt n).length : Int) + 1 < (ps.length : Int) + 1 := by omega
          have HDp : Hid (ps.drop k = ps[(fmPt n).length] :: ps.drop ((fmPt n).length + 1)) := by
            unfold Hid
            rw [hkn]
            exact List.drop_eq_getElem_cons hmore
          obtain ⟨y0, y1⟩ := HRow.out (fmPt n).length ps[(fmPt n).length] (by simp [hmore])
          generalize ps[(fmPt n).length] = t at *
          obtain ⟨tx, tc⟩ := t
          simp only at y0 y1
          have z1 := (below_cell' hbl g _ hgw).trans y1
          have HS : Hid (oneGo e lb ga (fmPt n) ps (w0D n) 0 = (0, 4, tc)) := by
            unfold Hid
            rw [← HG.out, hdr, HDp.out, oneGo]
          have hwr : IntKind.i64.wrap (((fmPt n).length : Int) + 1) = ((fmPt n).length : Int) + 1 := IntWalk.i64_in _ ⟨by omega, by omega⟩
          have hto2 : (((fmPt n).length : Int) + 1).toNat = (fmPt n).length + 1 := by omega
          clear HG HDp hbl hdr y0 y1 hkn
          go_wp2_with fail
          go_quiet (fail)
          go_wp2_with fail
          refine bodyPost_ret (v := .tuple #[.int .i64 0, .int .i64 4, .int .i64 tc]) (by simp [results, Tryd.results117, go_sem]) rfl ?_
          unfold OnePost
          rw [HR.out, HS.out]
          exact ⟨below_drewN HBl.out nq, rfl⟩
        · have hm' : ¬ ((fmPt n).length : Int) + 1 < (ps.length : Int) + 1 := by omega
          have hdp : ps.drop k = [] := List.drop_of_length_le (by omega)
          by_cases hlo : 0 < lost
          · have HS : Hid (oneGo e lb ga (fmPt n) ps (w0D n) 0 = (0, 7, lost)) := by
              unfold Hid
              rw [← HG.out, hdr, hdp, oneGo, if_pos hlo]
            clear HG hbl hdr hdp hkn
            go_wp2_with fail
            refine bodyPost_ret (v := .tuple #[.int .i64 0, .int .i64 7, .int .i64 lost]) (by simp [results, Tryd.results117, go_sem]) rfl ?_
            unfold OnePost
            rw [HR.out, HS.out]
            exact ⟨HBl.out, rfl⟩
          · have hlo' : ¬ (0 : Int) < lost := hlo
            have HS : Hid (oneGo e lb ga (fmPt n) ps (w0D n) 0 = (wd, 0, 0)) := by
              unfold Hid
              rw [← HG.out, hdr, hdp, oneGo, if_neg hlo]
            clear HG hbl hdr hdp hkn
            go_wp2_with fail
            refine bodyPost_ret (v := .tuple #[.int .i64 wd, .int .i64 0, .int .i64 0]) (by simp [results, Tryd.results117, go_sem]) rfl ?_
            unfold OnePost
            rw [HR.out, HS.out]
            exact ⟨HBl.out, rfl⟩
end Go.Proofs.YtmmflekajbeamaaDoor
