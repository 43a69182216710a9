/-
  The law's book of puts: marks, two lists the same, a list that came out is written full of marks, appended to, and kept (markPut, samePuts, keepPuts).
  The law's book of puts: a list that came out is written full of marks, appended to, and kept (keepPuts).
  The law's book of puts: its looks (lookPuts, looks); Puts against the document's (putsOf).
  The law's accepts and does; a book of puts that is new.
-/
import Derived.Test.YtmmflekajbeamaaGreatDoorD26
import Derived.Test.YtmmflekajbeamaaGreatDoorD16
import Derived.Test.YtmmflekajbeamaaGreatDoorD20
import Derived.Test.YtmmflekajbeamaaGreatDoorD28
import Derived.Deep.MidRow
namespace Go.Proofs.YtmmflekajbeamaaGreatDoor
open Go.RowKit

def pmk (m : Int) : List Value := [.int .i64 m, .int .i64 m, .int .i64 0, .int .i64 0, .int .i64 0]
def pmq (q : Nat) : List Value := pmk (-1000 - 4 * (q : Int))
set_option maxRecDepth 100000 in
set_option maxHeartbeats 1000000 in
theorem markPut_any (n : Int) (w : World) (h0 : 0 ≤ n) (h1 : n ≤ 100000) :
    Calls Tryz.prog 86 #[.int .i64 n] w fun e' w' => e' = .returned (.agg #[.int .i64 (-1000 - n), .int .i64 (-1000 - n), .int .i64 0, .int .i64 0, .int .i64 0]) ∧ Below w.heap.size w w' := by
  have HM := hide (fun w' => markInt_any n w' h0 h1)
  have HB := hide (fun o => (Below.refl w.heap.size w).alloc (Nat.le_refl _) o)
  generalize -1000 - n = m at *
  go_enter Tryz.func86, Tryz.ntmps86
  go_wp2_with fail
  refine (unhide HM _).mono ?_
  rintro e w' ⟨rfl, hw⟩
  obtain rfl := hw.symm
  go_wp2_with fail
  refine (unhide HM _).mono ?_
  rintro e w' ⟨rfl, hw⟩
  obtain rfl := hw.symm
  go_wp2_with fail
  exact bodyPost_ret (v := .agg #[.int .i64 m, .int .i64 m, .int .i64 0, .int .i64 0, .int .i64 0]) (by simp [results, Tryz.results86, go_sem]) rfl ⟨rfl, HB.out _⟩

set_option maxRecDepth 100000 in
set_option maxHeartbeats 2000000 in
theorem samePuts_yes (a b : Value) (B B' : Nat) (ps : List PutN) (w : World) (ha : w.ownsRow B 123 5 a ps.length (putCs ps)) (hb : w.ownsRow B' 123 5 b ps.length (putCs ps)) (hl : ps.length ≤ 128) :
    Calls Tryz.prog 114 #[a, b] w fun e' w' => e' = .returned (.bool true) ∧ Below w.heap.size w w' := by
  obtain ⟨aa, ac, rfl⟩ := owns_len ha
  obtain ⟨ba, bc, rfl⟩ := owns_len hb
  have HA := hide ha; have HB := hide hb
  clear ha hb
  go_enter Tryz.func114, Tryz.ntmps114
  go_wp2_with fail
  go_loopw [5] (fun i wr => ∃ k : Nat, k ≤ ps.length ∧ i = .int .i64 k ∧ Below w.heap.size w wr) (fun i _ => ps.length - (intOf i).toNat)
  case atStart => exact ⟨0, Nat.zero_le _, rfl, Below.refl _ _⟩
  case round =>
    obtain ⟨k, hk, rfl, hbl⟩ := hrel
    have HBl := hide hbl
    by_cases hlt : k < ps.length
    · have hlt' : (k : Int) < (ps.length : Int) := by omega
      obtain ⟨g1, c1, hf1, _, hg1⟩ := HA.out.form (by omega)
      obtain ⟨g2, c2, hf2, _, hg2⟩ := HB.out.form (by omega)
      cases hf1
      cases hf2
      have hpk : ps[k]? = some ps[k] := List.getElem?_eq_getElem hlt
      obtain ⟨x0, x1, x2, x3, x4⟩ := put_cells (own_grow HA.out hbl) k ps[k] hpk
      obtain ⟨y0, y1, y2, y3, y4⟩ := put_cells (own_grow HB.out hbl) k ps[k] hpk
      generalize ps[k] = p at *
      obtain ⟨p0, p1, p2, p3, p4⟩ := p
      simp only at x0 x1 x2 x3 x4 y0 y1 y2 y3 y4
      clear hbl hpk
      go_wp2_with fail
      go_quiet (fail)
      go_wp2_with fail
      exact ⟨⟨k + 1, by omega, by go_num, below_drewN HBl.out nq⟩, by simp [intOf]; omega⟩
    · have hlt' : ¬ (k : Int) < (ps.length : Int) := by omega
      clear hbl
      go_wp2_with fail
      go_ret
      exact ⟨rfl, HBl.out⟩
end Go.Proofs.YtmmflekajbeamaaGreatDoor

namespace Go.Proofs.YtmmflekajbeamaaGreatDoor
open Go.RowKit

theorem pmk_one (m : Int) : ∀ u ∈ pmk m, u.oneCell' = true := fun u hu => by simp [pmk] at hu; rcases hu with rfl | rfl <;> rfl
theorem pfill (m : Int) (xs : List Value) (n k : Nat) (hl : xs.length = n * 5) (hk : k < n) :
    (((((gks (pmk m) k ++ xs.drop (k * 5)).set (k * 5) (.int .i64 m)).set (k * 5 + 1) (.int .i64 m)).set (k * 5 + 1 + 1) (.int .i64 0)).set (k * 5 + 1 + 1 + 1) (.int .i64 0)).set (k * 5 + 1 + 1 + 1 + 1) (.int .i64 0) = gks (pmk m) (k + 1) ++ xs.drop ((k + 1) * 5) := by
  have hg : (gks (pmk m) k).length = k * 5 := gks_len rfl k
  obtain ⟨a, b, c, d, e, r, hr⟩ : ∃ a b c d e r, xs.drop (k * 5) = a :: b :: c :: d :: e :: r := by
    have h5 : 5 ≤ (xs.drop (k * 5)).length := by rw [List.length_drop]; omega
    match xs.drop (k * 5), h5 with
    | a :: b :: c :: d :: e :: r, _ => exact ⟨a, b, c, d, e, r, rfl⟩
  have hr2 : xs.drop ((k + 1) * 5) = r := by
    rw [show (k + 1) * 5 = k * 5 + 5 by omega, ← List.drop_drop, hr]
    rfl
  rw [hr, hr2, ← gks_add k 1, show gks (pmk m) 1 = pmk m from by simp [gks]]
  generalize gks (pmk m) k = G at hg ⊢
  subst_vars
  rw [← hg]
  simp only [Nat.add_assoc]
  rw [List.set_append_right _ _ (by omega), List.set_append_right _ _ (by omega), List.set_append_right _ _ (by omega), List.set_append_right _ _ (by omega), List.set_append_right _ _ (by omega), List.append_assoc]
  simp only [Nat.sub_self, Nat.add_sub_cancel_left]
  rfl
theorem infoSlP : ∃ i, Tryz.prog.info? 125 = some i ∧ i.zero = some (.slice none 0 0) ∧ i.size = 1 ∧ i.bytes = 24 := by
  have h : (Tryz.prog.info? 125).map (fun i => (i.zero, i.size, i.bytes)) = some (some (.slice none 0 0), 1, 24) := by kernel_rfl
  cases hq : Tryz.prog.info? 125 with
  | none => rw [hq] at h; cases h
  | some i =>
    rw [hq] at h
    simp only [Option.map_some, Option.some.injEq, Prod.mk.injEq] at h
    exact ⟨i, rfl, h.1, h.2.1, h.2.2⟩
theorem pbox_cells {m : Int} {w : World} {b : Nat} (h : BoxG 123 (pmk m) w b) : w.cell? ⟨b, 0, none⟩ = some (.int .i64 m) ∧ w.cell? ⟨b, 1, none⟩ = some (.int .i64 m) ∧ w.cell? ⟨b, 2, none⟩ = some (.int .i64 0) ∧ w.cell? ⟨b, 3, none⟩ = some (.int .i64 0) ∧ w.cell? ⟨b, 4, none⟩ = some (.int .i64 0) :=
  ⟨h.cell 0, h.cell 1, h.cell 2, h.cell 3, h.cell 4⟩

set_option maxRecDepth 100000 in
set_option maxHeartbeats 8000000 in
theorem keepPuts_any (N q : Nat) (vs : List Value) (vi : Value) (w0 w : World) (h0 : BookF 1 125 123 5 pmq N vs vi w0) (hb : Below w0.heap.size w0 w) (hq : vs.length = 4 * q) (hq2 : q ≤ 100) (l : Value) (ps : List PutN) (hl : w.ownsRow w0.heap.size 123 5 l ps.length (putCs ps)) (hpl : ps.length ≤ 128) :
    Calls Tryz.prog 115 #[.pointer (some ⟨N, 0, none⟩), l] w fun e' w' => e' = .returned (.tuple #[]) ∧ (∃ vs' vi', BookF 1 125 123 5 pmq N vs' vi' w' ∧ vs'.length = 4 * (q + 1)) ∧ Below N w0 w' := by
  have hW := h0.above hb
  obtain ⟨ia, ic, rfl⟩ := owns_len h0.row
  obtain ⟨la, lc, rfl⟩ := owns_len hl
  have c0 := hW.cf
  have hNw := hW.nlt
  have hmk : ((vs.length : Nat) : Int) ≤ 100000 := by omega
  have HMk := hide (fun w' => markPut_any (vs.length : Int) w' (by omega) hmk)
  obtain ⟨m, hm⟩ : ∃ m : Int, m = -1000 - (vs.length : Int) := ⟨_, rfl⟩
  rw [← hm] at HMk
  have HPm : Hid (pmq q = pmk m) := by unfold Hid pmq; rw [hm, hq]; congr 1
  have HQ := hide hq
  have hvl : vs.length ≤ 400 := by omega
  have H0 := hide h0; have HB := hide hb; have HL := hide hl
  have hBw := hb.size
  obtain ⟨inf, hinf, hz, hsz1, hby⟩ := infoSlP
  have HInf := hide hinf; have HZ := hide hz; have HSz := hide hsz1; have HBy := hide hby
  clear hinf hz hsz1 hby
  obtain ⟨inp, hinf, hz, hsz1, hby⟩ := infoPut
  have HInp := hide hinf; have HZp := hide hz; have HSp := hide hsz1; have HByp := hide hby
  have hxl : (putCs ps).length = ps.length * 5 := flat_len (fun p => (putV p).toList) 5 (fun _ => rfl) ps
  clear h0 hb hl hW hm hq hinf hz hsz1 hby
  go_enter Tryz.func115, Tryz.ntmps115
  go_wp2_with fail
  refine (unhide HMk _).mono ?_
  rintro e wa ⟨rfl, hba⟩
  obtain ⟨W, hW⟩ : ∃ W, W = wa.alloc (.cells #[.int .i64 m, .int .i64 m, .int .i64 0, .int .i64 0, .int .i64 0] 123) := ⟨_, rfl⟩
  have hbW : Below w.heap.size w W := by rw [hW]; exact hba.alloc hba.size _
  have HBx : Hid (BoxG 123 (pmk m) W wa.heap.size) := by unfold Hid; rw [hW]; exact _root_.Go.heap_alloc_new wa _
  have HBW := hide hbW
  have HWe := hide hW
  have hsa := hba.size
  have hsW : W.heap.size = wa.heap.size + 1 := by rw [hW, size_alloc1]
  have HLW := hide (own_grow HL.out hbW)
  clear hba hbW hW
  go_wp2_with fail
  rw [← HWe.out]
  go_loopw [5] (fun i wr => ∃ k : Nat, k ≤ ps.length ∧ i = .int .i64 k ∧ wr.ownsRow w0.heap.size 123 5 (.slice la ps.length lc) ps.length (gks (pmk m) k ++ (putCs ps).drop (k * 5)) ∧ KG 123 5 (pmk m) w0.heap.size W wr) (fun i _ => ps.length - (intOf i).toNat)
  case atStart => exact ⟨0, Nat.zero_le _, rfl, HLW.out, KG.refl _ _⟩
  case round =>
    obtain ⟨k, hk, rfl, hown, hkm⟩ := hrel
    have HO := hide hown; have HKm := hide hkm
    have hbx := HBx.out.kg rfl hkm
    obtain ⟨b0, b1, b2, b3, b4⟩ := pbox_cells hbx
    by_cases hlt : k < ps.length
    · have hlt' : (k : Int) < (ps.length : Int) := by omega
      obtain ⟨g, cc, hf, _, hgl⟩ := hown.form (by omega)
      cases hf
      have hcell : ∀ j, j < 5 → ∃ u, wr.cell? ⟨g, k * 5 + j, none⟩ = some u := fun j hj => by
        rw [hown.cellAt (k * 5 + j) (by omega)]
        have : k * 5 + j < (gks (pmk m) k ++ (putCs ps).drop (k * 5)).length := by rw [List.length_append, gks_len rfl, List.length_drop, hxl]; show _ < k * 5 + _; omega
        exact ⟨_, List.getElem?_eq_getElem this⟩
      obtain ⟨u0, h0⟩ := hcell 0 (by decide)
      obtain ⟨u1, h1⟩ := hcell 1 (by decide)
      obtain ⟨u2, h2⟩ := hcell 2 (by decide)
      obtain ⟨u3, h3⟩ := hcell 3 (by decide)
      obtain ⟨u4, h4⟩ := hcell 4 (by decide)
      have h0' : wr.cell? ⟨g, k * 5, none⟩ = some u0 := h0
      have h2' : wr.cell? ⟨g, k * 5 + 1 + 1, none⟩ = some u2 := h2
      have h3' : wr.cell? ⟨g, k * 5 + 1 + 1 + 1, none⟩ = some u3 := h3
      have h4' : wr.cell? ⟨g, k * 5 + 1 + 1 + 1 + 1, none⟩ = some u4 := h4
      have f0 := hown.frozenAt (k * 5); have f1 := hown.frozenAt (k * 5 + 1); have f2 := hown.frozenAt (k * 5 + 1 + 1); have f3 := hown.frozenAt (k * 5 + 1 + 1 + 1); have f4 := hown.frozenAt (k * 5 + 1 + 1 + 1 + 1)
      clear hown hkm h0 h2 h3 h4 hbx hcell
      go_wp2_with fail
      have s1 := HO.out.stored (k * 5) (.int .i64 m)
      have s2 := s1.1.stored (k * 5 + 1) (.int .i64 m)
      have s3 := s2.1.stored (k * 5 + 1 + 1) (.int .i64 0)
      have s4 := s3.1.stored (k * 5 + 1 + 1 + 1) (.int .i64 0)
      have s5 := s4.1.stored (k * 5 + 1 + 1 + 1 + 1) (.int .i64 0)
      have hst := s5.1
      rw [pfill m (putCs ps) ps.length k hxl hlt] at hst
      have q1 := KG.store (mc := pmk m) HO.out (k * 5) (u := .int .i64 m) (by rw [show k * 5 % 5 = 0 by omega]; rfl)
      have q2 := KG.store (mc := pmk m) s1.1 (k * 5 + 1) (u := .int .i64 m) (by rw [show (k * 5 + 1) % 5 = 1 by omega]; rfl)
      have q3 := KG.store (mc := pmk m) s2.1 (k * 5 + 1 + 1) (u := .int .i64 0) (by rw [show (k * 5 + 1 + 1) % 5 = 2 by omega]; rfl)
      have q4 := KG.store (mc := pmk m) s3.1 (k * 5 + 1 + 1 + 1) (u := .int .i64 0) (by rw [show (k * 5 + 1 + 1 + 1) % 5 = 3 by omega]; rfl)
      have q5 := KG.store (mc := pmk m) s4.1 (k * 5 + 1 + 1 + 1 + 1) (u := .int .i64 0) (by rw [show (k * 5 + 1 + 1 + 1 + 1) % 5 = 4 by omega]; rfl)
      exact ⟨⟨k + 1, by omega, by go_num, hst, ((((HKm.out.trans q1).trans q2).trans q3).trans q4).trans q5⟩, by simp [intOf]; omega⟩
    · have hkn : k = ps.length := by omega
      subst hkn
      have hlt' : ¬ (ps.length : Int) < (ps.length : Int) := by omega
      have HO1 : Hid (wr.ownsRow w0.heap.size 123 5 (.slice la ps.length lc) ps.length (gks (pmk m) ps.length)) := by
        have : (putCs ps).drop (ps.length * 5) = [] := List.drop_of_length_le (by omega)
        rw [this, List.append_nil] at hown
        exact hown
      have hsz := hkm.below.size
      clear hown hkm HO
      clear hbx
      go_wp2_with (first | (at_builtin; refine wpList_append_g (mc := pmk m) (E := 123) (k := 5) (by' := 40) Tryz.underlying125 HInp.out HZp.out HSp.out HByp.out rfl (by decide) rfl (by decide) (pmk_one m) _ rfl _ _ rfl w0.heap.size (.slice la ps.length lc) ps.length 1 1 rfl (HO1.out.alloc _) ⟨wr.heap.size, 0, none⟩ rfl (gks_news wr _ 1 _ rfl) (by omega) (by rw [size_alloc1]; omega) ?_; intro a1 c1 w1 ho1 hk1; have HK1 := hide (HKm.out.trans ((KG.above (E := 123) (k := 5) (mc := pmk m) (B := w0.heap.size) (by omega) ((Below.refl wr.heap.size wr).alloc (Nat.le_refl _) _)).trans hk1)); have HG1 := hide (own_gs (E := 123) (k := 5) (mc := pmk m) rfl (by decide) ho1 (by omega)); have HT1 := hide ((KG.above (E := 123) (k := 5) (mc := pmk m) (B := w0.heap.size) (by omega) ((Below.refl wr.heap.size wr).alloc (Nat.le_refl _) _)).trans hk1); have HL1 := hide (own_kg (E := 123) (k := 5) (mc := pmk m) rfl (by decide) (HO1.out.alloc _) hk1); have hs1 := hk1.below.size; rw [size_alloc1] at hs1; clear ho1 hk1; obtain ⟨y10, y11, y12, y13, y14⟩ := pbox_cells (HBx.out.kg rfl HK1.out)) | (at_builtin; refine wpList_append_g (mc := pmk m) (E := 123) (k := 5) (by' := 40) Tryz.underlying125 HInp.out HZp.out HSp.out HByp.out rfl (by decide) rfl (by decide) (pmk_one m) _ rfl _ _ rfl w0.heap.size (.slice la ps.length lc) ps.length 2 2 rfl (HL1.out.alloc _) ⟨w1.heap.size, 0, none⟩ rfl (gks_news w1 _ 2 _ rfl) (by omega) (by rw [size_alloc1]; omega) ?_; intro a2 c2 w2 ho2 hk2; have HK2 := hide (HK1.out.trans ((KG.above (E := 123) (k := 5) (mc := pmk m) (B := w0.heap.size) (by omega) ((Below.refl w1.heap.size w1).alloc (Nat.le_refl _) _)).trans hk2)); have HG2 := hide (own_gs (E := 123) (k := 5) (mc := pmk m) rfl (by decide) ho2 (by omega)); have HT2 := hide ((KG.above (E := 123) (k := 5) (mc := pmk m) (B := w0.heap.size) (by omega) ((Below.refl w1.heap.size w1).alloc (Nat.le_refl _) _)).trans hk2); have HL2 := hide (own_kg (E := 123) (k := 5) (mc := pmk m) rfl (by decide) (HL1.out.alloc _) hk2); have hs2 := hk2.below.size; rw [size_alloc1] at hs2; clear ho2 hk2; obtain ⟨y20, y21, y22, y23, y24⟩ := pbox_cells (HBx.out.kg rfl HK2.out)) | (at_builtin; refine wpList_append_g (mc := pmk m) (E := 123) (k := 5) (by' := 40) Tryz.underlying125 HInp.out HZp.out HSp.out HByp.out rfl (by decide) rfl (by decide) (pmk_one m) _ rfl _ _ rfl w0.heap.size (.slice la ps.length lc) ps.length 3 3 rfl (HL2.out.alloc _) ⟨w2.heap.size, 0, none⟩ rfl (gks_news w2 _ 3 _ rfl) (by omega) (by rw [size_alloc1]; omega) ?_; intro a3 c3 w3 ho3 hk3; have HK3 := hide (HK2.out.trans ((KG.above (E := 123) (k := 5) (mc := pmk m) (B := w0.heap.size) (by omega) ((Below.refl w2.heap.size w2).alloc (Nat.le_refl _) _)).trans hk3)); have HG3 := hide (own_gs (E := 123) (k := 5) (mc := pmk m) rfl (by decide) ho3 (by omega)); have HT3 := hide ((KG.above (E := 123) (k := 5) (mc := pmk m) (B := w0.heap.size) (by omega) ((Below.refl w2.heap.size w2).alloc (Nat.le_refl _) _)).trans hk3); have HL3 := hide (own_kg (E := 123) (k := 5) (mc := pmk m) rfl (by decide) (HL2.out.alloc _) hk3); have hs3 := hk3.below.size; rw [size_alloc1] at hs3; clear ho3 hk3; have HBk := hide (H0.out.above (HB.out.trans ((HBW.out.mono (by omega)).trans HK3.out.below))); have d0 := HBk.out.cf; have df := HBk.out.fz 1; have hN3 := HBk.out.nlt) | (at_builtin; refine wpList_append_lies _ rfl _ _ 42 rfl (N + 1) 125 inf _ 1 24 Tryz.underlying42 HInf.out HZ.out HSz.out HBy.out rfl (by decide) (.slice ia vs.length ic) vs.length vs rfl (HBk.out.row.alloc _) ⟨w3.heap.size, 0, none⟩ 4 4 [.slice la ps.length lc, .slice a1 (ps.length + 1) c1, .slice a2 (ps.length + 2) c2, .slice a3 (ps.length + 3) c3] rfl rfl (World.news_of_block (_root_.Go.heap_alloc_new w3 _)) (fun u hu => by simp at hu; rcases hu with rfl | rfl | rfl | rfl <;> rfl) (by decide) (by unfold maxLen; omega) (by omega) (by rw [size_alloc1]; omega) (w3.heap.size + 1) (by rw [size_alloc1]) ?_; intro g5 c5 w5 ho5 hg5 ha5 hl5; have HO5 := hide ho5; have HG5 := hide hg5; have k5 : w5.cell? ⟨N, 1, none⟩ = some (.slice ia vs.length ic) := (hg5.cell_far ⟨N, 1, none⟩ (by rw [size_alloc1]; show N < _; omega) (fun e => by have := (row_lt HBk.out.row N e.symm).1; omega)).trans ((World.cell?_of_block (Below.heap_alloc w3 _ N hN3)).trans d0); have kf5 : w5.frozen? ⟨N, 1, none⟩ = false := (hg5.frozen_far ⟨N, 1, none⟩ (by rw [size_alloc1]; show N < _; omega) (fun e => by have := (row_lt HBk.out.row N e.symm).1; omega)).trans ((World.frozen?_of_block (Below.heap_alloc w3 _ N hN3)).trans df); clear ho5 hg5 ha5))
      have M0 : GS 123 5 (pmk m) w3 (.slice la ps.length lc) := own_gs (E := 123) (k := 5) (mc := pmk m) rfl (by decide) HL3.out (by omega)
      have M1 : GS 123 5 (pmk m) w3 (.slice a1 (ps.length + 1) c1) := (HG1.out.kg HT2.out).kg HT3.out
      have M2 : GS 123 5 (pmk m) w3 (.slice a2 (ps.length + 2) c2) := HG2.out.kg HT3.out
      have M3 : GS 123 5 (pmk m) w3 (.slice a3 (ps.length + 3) c3) := HG3.out
      have hfin := bookF_add (by decide) (q := q) HBk.out g5 c5 _ _ rfl HO5.out HG5.out (fun v hv => by
        rw [HPm.out]
        simp at hv
        rcases hv with rfl | rfl | rfl | rfl
        · exact M0
        · exact M1
        · exact M2
        · exact M3) HQ.out
      go_end0
      refine ⟨rfl, ⟨_, ⟨_, hfin⟩, ?_⟩, ?_⟩
      · have := HQ.out
        simp
        omega
      · have hN0 := H0.out.nlt
        have b3 : Below N w0 w3 := (HB.out.trans ((HBW.out.mono (by omega)).trans HK3.out.below)).mono (by omega)
        exact ((b3.alloc (by omega) _).grown HG5.out (by rw [size_alloc1]; omega) (fun j hj => by have := (row_lt HBk.out.row j hj).1; omega)).setCell (p := ⟨N, 1, none⟩) (Nat.le_refl _) _
end Go.Proofs.YtmmflekajbeamaaGreatDoor

namespace Go.Proofs.YtmmflekajbeamaaGreatDoor
open Go.RowKit

abbrev BookP (N : Nat) (vs : List Value) (vi : Value) (w : World) : Prop := BookF 1 125 123 5 pmq N vs vi w

set_option maxRecDepth 100000 in
set_option maxHeartbeats 4000000 in
theorem lookPuts_f (N : Nat) (vs : List Value) (vi : Value) (w : World) (h : BookP N vs vi w) (hl : vs.length ≤ 400) :
    Calls Tryz.prog 39 #[.pointer (some ⟨N, 0, none⟩)] w fun e' w' => e' = .returned (.bool true) ∧ Below w.heap.size w w' := by
  obtain ⟨ia, ic, rfl⟩ := owns_len h.row
  have H := hide h
  have hNl := h.nlt
  have c1w := h.cf
  clear h
  go_enter Tryz.func39, Tryz.ntmps39
  go_wp2_with fail
  go_loopw [3] (fun i wr => ∃ k : Nat, k ≤ vs.length ∧ i = .int .i64 k ∧ Below w.heap.size w wr) (fun i _ => vs.length - (intOf i).toNat)
  case atStart => exact ⟨0, Nat.zero_le _, rfl, Below.refl _ _⟩
  case round =>
    obtain ⟨k, hk, rfl, hbl⟩ := hrel
    have HBl := hide hbl
    have hwz := hbl.size
    have HR := hide (H.out.above hbl)
    have c1 := HR.out.cf
    clear c1w
    by_cases hlt : k < vs.length
    · have hlt' : (k : Int) < (vs.length : Int) := by omega
      obtain ⟨g, c, hf, _, hgl⟩ := HR.out.row.form (by omega)
      cases hf
      obtain ⟨v, hv⟩ : ∃ v, vs[k]? = some v := ⟨vs[k], by simp [hlt]⟩
      have hcell : wr.cell? ⟨g, k, none⟩ = some v := (HR.out.row.cellAt k (by omega)).trans hv
      obtain ⟨a, n, cc, rfl, hnb, hms⟩ := HR.out.ms k v hv
      have HMs := hide hms
      clear hms hv hbl
      have HMk2 := hide (fun w' => markPut_any ((k : Int) / 4 * 4) w' (by omega) (by omega))
      have hme : -1000 - (k : Int) / 4 * 4 = -1000 - 4 * ((k / 4 : Nat) : Int) := by omega
      rw [hme] at HMk2
      unfold pmq at HMs
      generalize -1000 - 4 * ((k / 4 : Nat) : Int) = m at *
      clear hme
      have hNr := HR.out.nlt
      go_wp2_with fail
      refine (unhide HMk2 _).mono ?_
      rintro e w1 ⟨rfl, hb1⟩
      have hs1 := hb1.size
      obtain ⟨W, hW⟩ : ∃ W, W = w1.alloc (.cells #[.int .i64 m, .int .i64 m, .int .i64 0, .int .i64 0, .int .i64 0] 123) := ⟨_, rfl⟩
      have HWe := hide hW
      have hbW : Below wr.heap.size wr W := by rw [hW]; exact hb1.alloc hs1 _
      have HBW := hide hbW
      have HBx : Hid (BoxG 123 (pmk m) W w1.heap.size) := by unfold Hid; rw [hW]; exact _root_.Go.heap_alloc_new w1 _
      have hsW : W.heap.size = w1.heap.size + 1 := by rw [hW, size_alloc1]
      clear hb1 hbW hW
      go_wp2_with fail
      rw [← HWe.out]
      obtain ⟨wo, hwo⟩ : ∃ wo, wo = wr := ⟨_, rfl⟩
      subst hwo
      go_loopw [5] (fun j wr2 => ∃ i : Nat, i ≤ n ∧ j = .int .i64 i ∧ Below W.heap.size W wr2) (fun j _ => n - (intOf j).toNat)
      case atStart => exact ⟨0, Nat.zero_le _, rfl, Below.refl _ _⟩
      case round =>
        obtain ⟨wr2, hwr2⟩ : ∃ wr2, wr2 = wr := ⟨_, rfl⟩
        subst hwr2
        obtain ⟨i, hi, rfl, hb2⟩ := hrel
        have HB2 := hide hb2
        have hrr : Below wo.heap.size wo wr2 := HBW.out.trans (hb2.mono HBW.out.size)
        have d1 := (below_cell' hrr N 1 hNr).trans c1
        have d2 := (below_cell' hrr g k hgl).trans hcell
        obtain ⟨x0, x1, x2, x3, x4⟩ := pbox_cells (HBx.out.below hb2)
        by_cases hin : i < n
        · have hin' : (i : Int) < (n : Int) := by omega
          obtain ⟨g2, cur, rfl, hg2, hcur⟩ := HMs.out (by omega)
          have hg2' : wr2.heap[g2]? = some (.cells cur 123 (0, 0)) := (hrr.block g2 (Array.getElem?_eq_some_iff.1 hg2).1).trans hg2
          have ce : ∀ j u, j < 5 → (pmk m)[j]? = some u → wr2.cell? ⟨g2, i * 5 + j, none⟩ = some u := fun j u hj hu => by
            rw [cell_of_row wr2 g2 (i * 5 + j) cur _ _ hg2']
            exact hcur (i * 5 + j) u (by omega) (by rw [show (i * 5 + j) % 5 = j by omega]; exact hu)
          have y0 : wr2.cell? ⟨g2, i * 5, none⟩ = some (.int .i64 m) := ce 0 _ (by decide) rfl
          have y1 : wr2.cell? ⟨g2, i * 5 + 1, none⟩ = some (.int .i64 m) := ce 1 _ (by decide) rfl
          have y2 : wr2.cell? ⟨g2, i * 5 + 1 + 1, none⟩ = some (.int .i64 0) := ce 2 _ (by decide) rfl
          have y3 : wr2.cell? ⟨g2, i * 5 + 1 + 1 + 1, none⟩ = some (.int .i64 0) := ce 3 _ (by decide) rfl
          have y4 : wr2.cell? ⟨g2, i * 5 + 1 + 1 + 1 + 1, none⟩ = some (.int .i64 0) := ce 4 _ (by decide) rfl
          clear hg2 hcur hg2' ce hb2 hrr c1 hcell
          go_wp2_with fail
          go_quiet (fail)
          go_wp2_with fail
          exact ⟨⟨i + 1, by omega, by go_num, below_drewN HB2.out nq⟩, by simp [intOf]; omega⟩
        · have hin' : ¬ (i : Int) < (n : Int) := by omega
          have HE : Hid (Below w.heap.size w wr2) := HBl.out.trans (hrr.mono hwz)
          clear hb2 hrr c1 hcell
          go_wp2_with fail
          exact ⟨⟨k + 1, by omega, by go_num, HE.out⟩, by simp [intOf]; omega⟩
    · have hlt' : ¬ (k : Int) < (vs.length : Int) := by omega
      clear hbl
      go_wp2_with fail
      go_ret
      exact ⟨rfl, HBl.out⟩

set_option maxRecDepth 100000 in
set_option maxHeartbeats 2000000 in
theorem lookInts_nil (N : Nat) (w : World) (c0 : w.cell? ⟨N, 0, none⟩ = some (.slice none 0 0)) :
    Calls Tryz.prog 38 #[.pointer (some ⟨N, 0, none⟩)] w fun e' w' => e' = .returned (.bool true) ∧ w' = w := by
  go_enter Tryz.func38, Tryz.ntmps38
  go_wp2_with fail
  go_loop [3] (fun i => i = .int .i64 0) (fun _ => 0)
  case atStart => rfl
  case round =>
    subst hrel
    go_wp2_with fail
    go_ret
    exact ⟨rfl, rfl⟩
set_option maxRecDepth 100000 in
set_option maxHeartbeats 2000000 in
theorem lookPlans_nil (N : Nat) (w : World) (c2 : w.cell? ⟨N, 2, none⟩ = some (.slice none 0 0)) :
    Calls Tryz.prog 40 #[.pointer (some ⟨N, 0, none⟩)] w fun e' w' => e' = .returned (.bool true) ∧ w' = w := by
  go_enter Tryz.func40, Tryz.ntmps40
  go_wp2_with fail
  go_loop [3] (fun i => i = .int .i64 0) (fun _ => 0)
  case atStart => rfl
  case round =>
    subst hrel
    go_wp2_with fail
    go_ret
    exact ⟨rfl, rfl⟩
set_option maxRecDepth 100000 in
set_option maxHeartbeats 2000000 in
theorem looks_puts (N : Nat) (vs : List Value) (vi : Value) (w : World) (h : BookP N vs vi w) (hl : vs.length ≤ 400) :
    Calls Tryz.prog 14 #[.pointer (some ⟨N, 0, none⟩)] w fun e' w' => e' = .returned (.bool true) ∧ Below w.heap.size w w' := by
  have HI := hide (lookInts_nil N w (h.cn 0 (by decide) (by decide)))
  have HP := hide (lookPuts_f N vs vi w h hl)
  have H := hide h
  clear h
  go_enter Tryz.func14, Tryz.ntmps14
  go_wp2_with fail
  refine (unhide HI).mono ?_
  rintro e w' ⟨rfl, hw⟩
  obtain rfl := hw.symm
  go_wp2_with fail
  refine (unhide HP).mono ?_
  rintro e w1 ⟨rfl, hb1⟩
  have HL := hide (lookPlans_nil N w1 ((H.out.above hb1).cn 2 (by decide) (by decide)))
  have HB := hide hb1
  clear hb1
  go_wp2_with fail
  refine (unhide HL).mono ?_
  rintro e w' ⟨rfl, hw⟩
  obtain rfl := hw.symm
  go_wp2_with fail
  go_ret
  exact ⟨rfl, HB.out⟩

set_option maxRecDepth 100000 in
set_option maxHeartbeats 4000000 in
theorem putsOf_any (s : ByteArray) (N q : Nat) (vs : List Value) (vi : Value) (w : World) (h : BookP N vs vi w) (hq : vs.length = 4 * q) (hq2 : q ≤ 100) (hsm : s.size ≤ maxLen) :
    Calls Tryz.prog 62 #[.pointer (some ⟨N, 0, none⟩), .string s] w fun e' w' => e' = .returned (.bool true) ∧ (∃ vs' vi', BookP N vs' vi' w' ∧ vs'.length = 4 * (q + 1)) ∧ Below N w w' := by
  have HC := hide (cribPuts_any s w hsm)
  have HD := hide (fun w' => refPuts_any s w' hsm)
  have HH := hide h
  have HQ := hide hq
  clear h hq
  go_enter Tryz.func62, Tryz.ntmps62
  go_wp2_with fail
  refine (unhide HC).mono ?_
  rintro e w1 ⟨hb1, ⟨hok, v1, rfl, ho1⟩ | ⟨hno, rfl⟩⟩
  · have HB1 := hide hb1; have HO1 := hide ho1; have HOk := hide hok
    have hz1 := hb1.size
    clear hb1 ho1 hok HC
    go_wp2_with fail
    refine (unhide HD _).mono ?_
    rintro e w2 ⟨hb2, ⟨hok2, v2, rfl, ho2⟩ | ⟨hno2, rfl⟩⟩
    · have HB2 := hide hb2; have HO2 := hide ho2
      have hz2 := hb2.size
      have h10 : s.size / 8 ≤ 10 := by have := HOk.out.2.1; omega
      have hln : (putL s (s.size / 8)).length = s.size / 8 := putL_len s _
      have HO1' : Hid (w2.ownsRow w.heap.size 123 5 v1 (putL s (s.size / 8)).length (putCs (putL s (s.size / 8)))) := by unfold Hid; rw [hln]; exact own_grow HO1.out hb2
      have HSm := hide (samePuts_yes v1 v2 w.heap.size w1.heap.size (putL s (s.size / 8)) w2 HO1'.out (by rw [hln]; exact ho2) (by omega))
      obtain ⟨va, vc, rfl⟩ := owns_len HO1.out
      clear hb2 ho2 HD hok2
      go_wp2_with fail
      refine (unhide HSm).mono ?_
      rintro e w3 ⟨rfl, hb3⟩
      have HBw : Hid (Below w.heap.size w w3) := (HB1.out.trans (HB2.out.mono hz1)).trans (hb3.mono (by omega))
      have HKp := hide (keepPuts_any N q vs vi w w3 HH.out HBw.out HQ.out hq2 (.slice va (s.size / 8) vc) (putL s (s.size / 8)) (own_grow HO1'.out hb3) (by omega))
      have HNm := hide (fun w' => num_any 0 w')
      clear hb3 HSm
      go_wp2_with fail
      refine (unhide HNm _).mono ?_
      rintro e w' ⟨rfl, hw'⟩
      obtain rfl := hw'.symm
      have hlen : ((s.size : Int) / 8 == 0) = true ∨ ((s.size : Int) / 8 == 0) = false := by
        cases ((s.size : Int) / 8 == 0)
        · exact .inr rfl
        · exact .inl rfl
      rcases hlen with hlen | hlen
      all_goals
        go_wp2_with fail
        refine (unhide HKp).mono ?_
        rintro e w4 ⟨rfl, hbk, hbelow⟩
        have HBk := hide hbk; have HBe := hide hbelow
        clear hbk hbelow HKp
        go_wp2_with fail
        go_ret
        exact ⟨rfl, HBk.out, HBe.out⟩
    · exact absurd HOk.out hno2
  · have HB1 := hide hb1; have HNo := hide hno
    have hz1 := hb1.size
    clear hb1 hno HC
    go_wp2_with fail
    refine (unhide HD _).mono ?_
    rintro e w2 ⟨hb2, ⟨hok2, v2, rfl, ho2⟩ | ⟨hno2, rfl⟩⟩
    · exact absurd hok2 HNo.out
    · have HB2 := hide hb2
      have hz2 := hb2.size
      have HV : Hid (w2.ownsRow w.heap.size 123 5 (.slice none 0 0) ([] : List PutN).length (putCs [])) := World.ownsRow_nil _ _ _ _
      have HV2 : Hid (w2.ownsRow w1.heap.size 123 5 (.slice none 0 0) ([] : List PutN).length (putCs [])) := World.ownsRow_nil _ _ _ _
      have HSm := hide (samePuts_yes (.slice none 0 0) (.slice none 0 0) w.heap.size w1.heap.size [] w2 HV.out HV2.out (by decide))
      clear hb2 HD hno2
      go_wp2_with fail
      refine (unhide HSm).mono ?_
      rintro e w3 ⟨rfl, hb3⟩
      have HBw : Hid (Below w.heap.size w w3) := (HB1.out.trans (HB2.out.mono hz1)).trans (hb3.mono (by omega))
      have HKp := hide (keepPuts_any N q vs vi w w3 HH.out HBw.out HQ.out hq2 (.slice none 0 0) [] (own_grow HV.out hb3) (by decide))
      have HNm := hide (fun w' => num_any 11 w')
      clear hb3 HSm
      go_wp2_with fail
      refine (unhide HNm _).mono ?_
      rintro e w' ⟨rfl, hw'⟩
      obtain rfl := hw'.symm
      go_wp2_with fail
      refine (unhide HKp).mono ?_
      rintro e w4 ⟨rfl, hbk, hbelow⟩
      have HBk := hide hbk; have HBe := hide hbelow
      clear hbk hbelow HKp
      go_wp2_with fail
      go_ret
      exact ⟨rfl, HBk.out, HBe.out⟩
end Go.Proofs.YtmmflekajbeamaaGreatDoor

namespace Go.Proofs.YtmmflekajbeamaaGreatDoor
open Go.RowKit

set_option maxRecDepth 100000 in
set_option maxHeartbeats 2000000 in
theorem accepts_any (s p : ByteArray) (w : World) (ht : Tab w) (hs : s.size ≤ maxLen) (hp : p.size ≤ maxLen) :
    Calls Tryz.prog 64 #[.string s, .string p] w fun e' w' => e' = .returned (.bool true) ∧ Below w.heap.size w w' := by
  have H1 := hide (cribAccept_any s p w ht hs hp)
  have H2 := hide (fun w' => refAccept_any s p w' hs hp)
  clear ht
  go_enter Tryz.func64, Tryz.ntmps64
  go_wp2_with fail
  refine (unhide H1).mono ?_
  rintro e w1 ⟨hb1, n, rfl, hn⟩
  have HB1 := hide hb1; have HN := hide hn
  have hz1 := hb1.size
  clear hb1 hn H1
  go_wp2_with fail
  refine (unhide H2 _).mono ?_
  rintro e w2 ⟨hb2, m, rfl, hm⟩
  obtain rfl := HN.out.one hm
  have HB2 : Hid (Below w.heap.size w w2) := HB1.out.trans (hb2.mono hz1)
  have HNm := hide (fun w' => num_any n w')
  clear hb2 hm H2
  go_wp2_with fail
  refine (unhide HNm _).mono ?_
  rintro e w' ⟨rfl, hw'⟩
  obtain rfl := hw'.symm
  go_wp2_with fail
  go_ret
  exact ⟨ret_bool (by simp), HB2.out⟩

theorem DoPost.one {p : ByteArray} {regs mem : List Int} {w1 w2 w1' w2' : World} {e1 e2 : Ending} (h1 : DoPost p regs mem w1 e1 w1') (h2 : DoPost p regs mem w2 e2 w2') : e1 = e2 := by
  obtain ⟨_, ⟨a, rfl⟩ | ⟨a, b, rfl⟩ | ⟨a, b, rfl⟩⟩ := h1 <;> obtain ⟨_, ⟨c, rfl⟩ | ⟨c, d, rfl⟩ | ⟨c, d, rfl⟩⟩ := h2
  all_goals first | rfl | exact absurd a c | exact absurd c a | exact absurd b d | exact absurd d b
theorem DoPost.form {p : ByteArray} {regs mem : List Int} {w w' : World} {e : Ending} (hr : regs.length = 8) (hm : mem.length = 128) (h : DoPost p regs mem w e w') : ∃ z n, e = .returned (.tuple #[.agg (S z), .int .i64 n]) ∧ z.length = 8 := by
  obtain ⟨hb, ⟨h1, rfl⟩ | ⟨h1, h2, rfl⟩ | ⟨h1, h2, rfl⟩⟩ := h
  · exact ⟨_, _, rfl, zr_len 8⟩
  · exact ⟨_, _, rfl, zr_len 8⟩
  · refine ⟨_, _, rfl, ?_⟩
    have hl : ((putL p (p.size / 8)).foldl (stD mem) (begD regs)).length = 16 := by
      have := (WL.fold (allW_WL h1.2 hm) (putL_ok h2) (putL p (p.size / 8)).length (begD regs) (Nat.le_refl _) (WL.beg (allW_WL h1.1 hr))).1
      rw [List.take_length] at this
      exact this
    unfold doL
    rw [List.length_take, hl]
    rfl
theorem range_row {w : World} {g : Nat} {t : TypeId} {z : List Int} (h : RowI w g t z) (o k : Nat) (ho : o + k ≤ z.length) : w.rangeAt g o (((z.drop o).take k).map (Value.int .i64)) := by
  intro j v hj
  have hlt := (List.getElem?_eq_some_iff.1 hj).1
  simp only [List.length_map, List.length_take, List.length_drop] at hlt
  rw [h.cell (o + j) (by omega)]
  rw [List.getElem?_map, List.getElem?_take, if_pos (by omega), List.getElem?_drop] at hj
  unfold gz
  rw [List.getD_eq_getElem?_getD]
  cases hq : z[o + j]? with
  | none => rw [hq] at hj; cases hj
  | some y => rw [hq] at hj; exact hj

set_option maxRecDepth 100000 in
set_option maxHeartbeats 2000000 in
theorem does_any (p : ByteArray) (z : List Int) (w : World) (hz : z.length = 138) (hp : p.size ≤ maxLen) :
    Calls Tryz.prog 63 #[.string p, .agg (S z)] w fun e' w' => e' = .returned (.bool true) ∧ Below w.heap.size w w' := by
  have z8 := zero8
  have hr : ((z.drop 0).take 8).length = 8 := by simp [hz]
  have hm : ((z.drop 8).take 128).length = 128 := by simp [hz]
  have H1 := hide (fun w' => cribDo_any p ((z.drop 0).take 8) ((z.drop 8).take 128) w' hr hm hp)
  have H2 := hide (fun w' => refDo_any p ((z.drop 0).take 8) ((z.drop 8).take 128) w' hr hm hp)
  have HR : Hid (RowI (w.alloc (.cells (S z) 28)) w.heap.size 28 z) := _root_.Go.heap_alloc_new w _
  have HB0 := hide ((Below.refl w.heap.size w).alloc (Nat.le_refl _) (.cells (S z) 28))
  have s8 : (Tryz.prog.info? 25).map (·.size) = some (((z.drop 0).take 8).map (Value.int .i64)).length := by rw [size8, List.length_map, hr]
  have s128 : (Tryz.prog.info? 26).map (·.size) = some (((z.drop 8).take 128).map (Value.int .i64)).length := by rw [size128, List.length_map, hm]
  have HS8 := hide s8; have HS128 := hide s128
  clear s8 s128
  have HF := hide (fun w1 w1' e => DoPost.form (p := p) (w := w1) (w' := w1') (e := e) hr hm)
  have HRg := hide (fun w' (h : RowI w' w.heap.size 28 z) => range_row h 0 8 (by omega))
  have HRm := hide (fun w' (h : RowI w' w.heap.size 28 z) => range_row h 8 128 (by omega))
  clear hr hm
  generalize hrg : (z.drop 0).take 8 = rg at *
  generalize hmg : (z.drop 8).take 128 = mg at *
  clear hrg hmg
  go_enter Tryz.func63, Tryz.ntmps63
  go_wp2_with (first | (refine wpList_load_mid rfl 25 _ rfl w.heap.size 0 rfl (rg.map (Value.int .i64)) _ (HRg.out _ HR.out) Tryz.underlying25 rfl HS8.out ?_) | (refine wpList_load_mid rfl 26 _ rfl w.heap.size 8 rfl (mg.map (Value.int .i64)) _ (HRm.out _ HR.out) Tryz.underlying26 rfl HS128.out ?_))
  refine (unhide H1 _).mono ?_
  intro e w1 hpost
  obtain ⟨z1, n1, rfl, hl1⟩ := HF.out _ _ _ hpost
  have HP1 := hide hpost
  have hb1 := hpost.1
  have HB1 : Hid (Below w.heap.size w w1) := HB0.out.trans (hb1.mono (by rw [size_alloc1]; omega))
  have HR1 := hide (HR.out.keep (hb1.block _ (by rw [size_alloc1]; omega)))
  have hz1 := hb1.size
  rw [size_alloc1] at hz1
  have HRa : Hid (RowI (w1.alloc (.cells (S z1) 25)) w.heap.size 28 z) := HR1.out.keep (Below.heap_alloc w1 _ _ HR1.out.lt)
  clear hpost hb1
  go_wp2_with (first | (refine wpList_storeR size8 rfl _ _ rfl w1.heap.size rfl z1 rfl hl1 (by rw [isRowB_alloc_at _ _ _ _ _ rfl]; rfl) _ (setRow_alloc_at _ _ _ _ _ rfl) ?_) | (refine wpList_load_mid rfl 25 _ rfl w.heap.size 0 rfl (rg.map (Value.int .i64)) _ (HRg.out _ HRa.out) Tryz.underlying25 rfl HS8.out ?_) | (refine wpList_load_mid rfl 26 _ rfl w.heap.size 8 rfl (mg.map (Value.int .i64)) _ (HRm.out _ HRa.out) Tryz.underlying26 rfl HS128.out ?_))
  refine (unhide H2 _).mono ?_
  intro e w2 hpost
  have he := DoPost.one HP1.out hpost
  subst he
  have hb2 := hpost.1
  have HB2 : Hid (Below w.heap.size w w2) := (HB1.out.alloc (by omega) _).trans (hb2.mono (by rw [size_alloc1]; omega))
  have hz2 := hb2.size
  rw [size_alloc1] at hz2
  have r1 : RowI w2 w1.heap.size 25 z1 := RowI.keep (show RowI (w1.alloc (.cells (S z1) 25)) w1.heap.size 25 z1 from _root_.Go.heap_alloc_new w1 _) (hb2.block _ (by rw [size_alloc1]; omega))
  have HRx : Hid (RowI (w2.alloc (.cells (S z1) 25)) w1.heap.size 25 z1) := r1.keep (Below.heap_alloc w2 _ _ r1.lt)
  have HRy : Hid (RowI (w2.alloc (.cells (S z1) 25)) w2.heap.size 25 z1) := _root_.Go.heap_alloc_new w2 _
  have heq := eq8 z1 z1 hl1 hl1
  rw [decide_eq_true rfl] at heq
  have HNm := hide (fun w' => num_any n1 w')
  clear hpost hb2 r1
  go_wp2_with (first | (refine wpList_storeR size8 rfl _ _ rfl w2.heap.size rfl z1 rfl hl1 (by rw [isRowB_alloc_at _ _ _ _ _ rfl]; rfl) _ (setRow_alloc_at _ _ _ _ _ rfl) ?_) | (refine wpList_loadR rfl Tryz.underlying25 size8 rfl _ rfl w1.heap.size rfl (HRx.out.isRow 8 hl1) _ HRx.out.rowD ?_) | (refine wpList_loadR rfl Tryz.underlying25 size8 rfl _ rfl w2.heap.size rfl (HRy.out.isRow 8 hl1) _ HRy.out.rowD ?_))
  refine (unhide HNm _).mono ?_
  rintro e w' ⟨rfl, hw'⟩
  obtain rfl := hw'.symm
  go_wp2_with fail
  go_ret
  exact ⟨ret_bool (by simp), HB2.out.alloc (by omega) _⟩

theorem bookP_new (w : World) (o : Obj) : BookP (w.heap.size + 1) [] (.slice none 0 0) ((w.alloc o).alloc (.cells #[.slice none 0 0, .slice none 0 0, .slice none 0 0] 45)) := by
  refine ⟨?_, fun j h1 h2 => ?_, fun j => ?_, fun cur hc => ?_, World.ownsRow_nil _ _ _ _, fun i v hi => by simp at hi⟩
  · rw [World.cell?_alloc_at (hn := by rw [size_alloc1])]; rfl
  · rw [World.cell?_alloc_at (hn := by rw [size_alloc1])]
    have : j = 0 ∨ j = 2 := by omega
    rcases this with rfl | rfl <;> rfl
  · rw [World.frozen?_alloc_at (hn := by rw [size_alloc1])]
  · have := _root_.Go.heap_alloc_new (w.alloc o) (.cells #[.slice none 0 0, .slice none 0 0, .slice none 0 0] 45)
    rw [size_alloc1] at this
    rw [this] at hc
    cases hc
end Go.Proofs.YtmmflekajbeamaaGreatDoor
