/-
  The law's book of blocks and plans: marks, two lists the same (markPlan, samePlans).
  The law's book of blocks and plans: a list that came out is written full of marks, appended to, and kept (keepPlans).
  The law's book of plans: its looks (lookPlans, looks).
  The calls Sum, Seal, Scan of the package; the law's seals and scans.
  Sound: small functions of the law: number, value, isPlain, plains.
-/
import Derived.Test.YtmmflekajbeamaaDoorR21
import Derived.Test.YtmmflekajbeamaaDoorR11
import Derived.Test.YtmmflekajbeamaaDoorR18
import Derived.Test.YtmmflekajbeamaaDoorR22
import Derived.Test.YtmmflekajbeamaaDoorR23
import Derived.Test.YtmmflekajbeamaaDoorR15
import Derived.Test.YtmmflekajbeamaaDoorR17
namespace Go.Proofs.YtmmflekajbeamaaDoor
open Go.RowKit

def MARK : ByteArray := ⟨#[109, 97, 114, 107]⟩
def kmk (n : Nat) : List Value := [.string MARK, .string (bya (numB 8 n))]
def kmq (q : Nat) : List Value := kmk (4 * q)
theorem size72 : (Tryd.prog.info? 72).map (·.size) = some 2 := by kernel_rfl
set_option maxRecDepth 100000 in
set_option maxHeartbeats 1000000 in
theorem markPlan_any (n : Nat) (w : World) (h1 : n ≤ 100000) :
    Calls Tryd.prog 75 #[.int .i64 (n : Int)] w fun e' w' => e' = .returned (.agg #[.string MARK, .string (bya (numB 8 n))]) ∧ Below w.heap.size w w' := by
  have HM := hide (fun w' => number_ref n 8 w' (by decide) (by omega))
  generalize bya (numB 8 n) = D at *
  go_enter Tryd.func75, Tryd.ntmps75
  go_wp2_with fail
  refine (unhide HM _).mono ?_
  rintro e w1 ⟨rfl, hb1⟩
  have HW1 : Hid (w1.heap[w.heap.size]? = some (.cells #[.string ⟨#[]⟩, .string ⟨#[]⟩] 72 (0, 0))) := (hb1.block _ (by rw [size_alloc1]; omega)).trans (_root_.Go.heap_alloc_new w _)
  have HB1 : Hid (Below w.heap.size w w1) := ((Below.refl _ _).alloc (Nat.le_refl _) _).trans (hb1.mono (by rw [size_alloc1]; omega))
  clear hb1
  go_wp2_with (refine wpList_store_row rfl 72 _ _ rfl w.heap.size #[.string MARK, .string D] rfl rfl 72 _ HW1.out size72 rfl (by simp [Value.oneCell']) ?_)
  exact bodyPost_ret (v := .agg #[.string MARK, .string D]) (results_cell_row Tryd.results75 _ _ w.heap.size 72 _ (0, 0) _ rfl (setRow_heap _ _ _ _ _ (0, 0) HW1.out) Tryd.underlying72 rfl size72) rfl ⟨rfl, below_setRow HB1.out (Nat.le_refl _) _⟩
theorem kn_cells {w : World} {B : Nat} {g cap : Nat} {l : List (List UInt8 × List UInt8)} (h : w.ownsRow B 72 2 (.slice (some ⟨g, 0, none⟩) l.length cap) l.length (knCs l)) (n : Nat) (x : List UInt8 × List UInt8) (hn : l[n]? = some x) :
    w.cell? ⟨g, n * 2, none⟩ = some (.string (bya x.1)) ∧ w.cell? ⟨g, n * 2 + 1, none⟩ = some (.string (bya x.2)) := by
  have hlt : n < l.length := (List.getElem?_eq_some_iff.1 hn).1
  have key := flat_atG (fun x : List UInt8 × List UInt8 => [Value.string (bya x.1), Value.string (bya x.2)]) 2 (fun _ => rfl) l n x hn
  refine ⟨?_, ?_⟩
  · rw [h.cellAt (n * 2) (by omega)]
    exact key 0 (by decide)
  · rw [h.cellAt (n * 2 + 1) (by omega)]
    exact key 1 (by decide)

set_option maxRecDepth 100000 in
set_option maxHeartbeats 2000000 in
theorem samePlans_yes (a b : Value) (B B' : Nat) (l : List (List UInt8 × List UInt8)) (w : World) (ha : w.ownsRow B 72 2 a l.length (knCs l)) (hb : w.ownsRow B' 72 2 b l.length (knCs l)) (hl : l.length ≤ 1048576) :
    Calls Tryd.prog 67 #[a, b] w fun e' w' => e' = .returned (.bool true) ∧ Below w.heap.size w w' := by
  obtain ⟨aa, ac, rfl⟩ := owns_len ha
  obtain ⟨ba, bc, rfl⟩ := owns_len hb
  have HA := hide ha; have HB := hide hb
  clear ha hb
  go_enter Tryd.func67, Tryd.ntmps67
  go_wp2_with fail
  go_loopw [5] (fun i wr => ∃ k : Nat, k ≤ l.length ∧ i = .int .i64 k ∧ Below w.heap.size w wr) (fun i _ => l.length - (intOf i).toNat)
  case atStart => exact ⟨0, Nat.zero_le _, rfl, Below.refl _ _⟩
  case round =>
    obtain ⟨k, hk, rfl, hbl⟩ := hrel
    have HBl := hide hbl
    by_cases hlt : k < l.length
    · have hlt' : (k : Int) < (l.length : Int) := by omega
      obtain ⟨g1, c1, hf1, _, hg1⟩ := HA.out.form (by omega)
      obtain ⟨g2, c2, hf2, _, hg2⟩ := HB.out.form (by omega)
      cases hf1
      cases hf2
      have hpk : l[k]? = some l[k] := List.getElem?_eq_getElem hlt
      obtain ⟨x0, x1⟩ := kn_cells (own_grow HA.out hbl) k l[k] hpk
      obtain ⟨y0, y1⟩ := kn_cells (own_grow HB.out hbl) k l[k] hpk
      generalize l[k] = p at *
      obtain ⟨p0, p1⟩ := p
      simp only at x0 x1 y0 y1
      generalize bya p0 = D0 at *
      generalize bya p1 = D1 at *
      clear hbl hpk
      go_wp2_with fail
      go_quiet (fail)
      go_wp2_with fail
      exact ⟨⟨k + 1, by omega, by go_num, below_drewN HBl.out nq⟩, by simp [intOf]; omega⟩
    · have hlt' : ¬ (k : Int) < (l.length : Int) := by omega
      clear hbl
      go_wp2_with fail
      go_ret
      exact ⟨rfl, HBl.out⟩
end Go.Proofs.YtmmflekajbeamaaDoor

namespace Go.Proofs.YtmmflekajbeamaaDoor
open Go.RowKit

def kmD (D : ByteArray) : List Value := [.string MARK, .string D]
theorem kmD_one (D : ByteArray) : ∀ u ∈ kmD D, u.oneCell' = true := fun u hu => by simp [kmD] at hu; rcases hu with rfl | rfl <;> rfl
theorem kfill (D : ByteArray) (xs : List Value) (n k : Nat) (hl : xs.length = n * 2) (hk : k < n) :
    ((gks (kmD D) k ++ xs.drop (k * 2)).set (k * 2) (.string MARK)).set (k * 2 + 1) (.string D) = gks (kmD D) (k + 1) ++ xs.drop ((k + 1) * 2) := by
  have hg : (gks (kmD D) k).length = k * 2 := gks_len rfl k
  obtain ⟨a, b, r, hr⟩ : ∃ a b r, xs.drop (k * 2) = a :: b :: r := by
    have h5 : 2 ≤ (xs.drop (k * 2)).length := by rw [List.length_drop]; omega
    match xs.drop (k * 2), h5 with
    | a :: b :: r, _ => exact ⟨a, b, r, rfl⟩
  have hr2 : xs.drop ((k + 1) * 2) = r := by
    rw [show (k + 1) * 2 = k * 2 + 2 by omega, ← List.drop_drop, hr]
    rfl
  rw [hr, hr2, ← gks_add k 1, show gks (kmD D) 1 = kmD D from by simp [gks]]
  generalize gks (kmD D) k = G at hg ⊢
  subst_vars
  rw [← hg]
  rw [List.set_append_right _ _ (by omega), List.set_append_right _ _ (by omega), List.append_assoc]
  simp only [Nat.sub_self, Nat.add_sub_cancel_left]
  rfl
theorem infoSlK : ∃ i, Tryd.prog.info? 70 = some i ∧ i.zero = some (.slice none 0 0) ∧ i.size = 1 ∧ i.bytes = 24 := by
  have h : (Tryd.prog.info? 70).map (fun i => (i.zero, i.size, i.bytes)) = some (some (.slice none 0 0), 1, 24) := by kernel_rfl
  cases hq : Tryd.prog.info? 70 with
  | none => rw [hq] at h; cases h
  | some i =>
    rw [hq] at h
    simp only [Option.map_some, Option.some.injEq, Prod.mk.injEq] at h
    exact ⟨i, rfl, h.1, h.2.1, h.2.2⟩
theorem kbox_cells {D : ByteArray} {w : World} {b : Nat} (h : BoxG 72 (kmD D) w b) : w.cell? ⟨b, 0, none⟩ = some (.string MARK) ∧ w.cell? ⟨b, 1, none⟩ = some (.string D) := ⟨h.cell 0, h.cell 1⟩

set_option maxRecDepth 100000 in
set_option maxHeartbeats 8000000 in
theorem keepPlans_any (N q : Nat) (vs : List Value) (vi : Value) (w0 w : World) (h0 : BookF 2 70 72 2 kmq N vs vi w0) (hb : Below w0.heap.size w0 w) (hq : vs.length = 4 * q) (hq2 : q ≤ 100) (l : Value) (ps : List (List UInt8 × List UInt8)) (hl : w.ownsRow w0.heap.size 72 2 l ps.length (knCs ps)) (hpl : ps.length ≤ 1048576) :
    Calls Tryd.prog 68 #[.pointer (some ⟨N, 0, none⟩), l] w fun e' w' => e' = .returned (.tuple #[]) ∧ (∃ vs' vi', BookF 2 70 72 2 kmq N vs' vi' w' ∧ vs'.length = 4 * (q + 1)) ∧ Below N w0 w' := by
  have hW := h0.above hb
  obtain ⟨ia, ic, rfl⟩ := owns_len h0.row
  obtain ⟨la, lc, rfl⟩ := owns_len hl
  have c0 := hW.cf
  have hNw := hW.nlt
  have hmk : ((vs.length : Nat) : Int) ≤ 100000 := by omega
  have HMk := hide (fun w' => markPlan_any vs.length w' (by omega))
  obtain ⟨Dm, hDm⟩ : ∃ Dm, Dm = bya (numB 8 vs.length) := ⟨_, rfl⟩
  rw [← hDm] at HMk
  have HPm : Hid (kmq q = kmD Dm) := by unfold Hid kmq kmk kmD; rw [hDm, hq]
  have HQ := hide hq
  have hvl : vs.length ≤ 400 := by omega
  have H0 := hide h0; have HB := hide hb; have HL := hide hl
  have hBw := hb.size
  obtain ⟨inf, hinf, hz, hsz1, hby⟩ := infoSlK
  have HInf := hide hinf; have HZ := hide hz; have HSz := hide hsz1; have HBy := hide hby
  clear hinf hz hsz1 hby
  obtain ⟨inp, hinf, hz, hsz1, hby⟩ := infoKn
  have HInp := hide hinf; have HZp := hide hz; have HSp := hide hsz1; have HByp := hide hby
  have hxl : (knCs ps).length = ps.length * 2 := flat_len (fun x : List UInt8 × List UInt8 => [Value.string (bya x.1), Value.string (bya x.2)]) 2 (fun _ => rfl) ps
  clear h0 hb hl hW hDm hq hinf hz hsz1 hby
  go_enter Tryd.func68, Tryd.ntmps68
  go_wp2_with fail
  refine (unhide HMk _).mono ?_
  rintro e wa ⟨rfl, hba⟩
  obtain ⟨W, hW⟩ : ∃ W, W = wa.alloc (.cells #[.string MARK, .string Dm] 72) := ⟨_, rfl⟩
  have hbW : Below w.heap.size w W := by rw [hW]; exact hba.alloc hba.size _
  have HBx : Hid (BoxG 72 (kmD Dm) W wa.heap.size) := by unfold Hid; rw [hW]; exact _root_.Go.heap_alloc_new wa _
  have HBW := hide hbW
  have HWe := hide hW
  have hsa := hba.size
  have hsW : W.heap.size = wa.heap.size + 1 := by rw [hW, size_alloc1]
  have HLW := hide (own_grow HL.out hbW)
  clear hba hbW hW
  go_wp2_with fail
  rw [← HWe.out]
  go_loopw [5] (fun i wr => ∃ k : Nat, k ≤ ps.length ∧ i = .int .i64 k ∧ wr.ownsRow w0.heap.size 72 2 (.slice la ps.length lc) ps.length (gks (kmD Dm) k ++ (knCs ps).drop (k * 2)) ∧ KG 72 2 (kmD Dm) w0.heap.size W wr) (fun i _ => ps.length - (intOf i).toNat)
  case atStart => exact ⟨0, Nat.zero_le _, rfl, HLW.out, KG.refl _ _⟩
  case round =>
    obtain ⟨k, hk, rfl, hown, hkm⟩ := hrel
    have HO := hide hown; have HKm := hide hkm
    have hbx := HBx.out.kg rfl hkm
    obtain ⟨b0, b1⟩ := kbox_cells hbx
    by_cases hlt : k < ps.length
    · have hlt' : (k : Int) < (ps.length : Int) := by omega
      obtain ⟨g, cc, hf, _, hgl⟩ := hown.form (by omega)
      cases hf
      have hcell : ∀ j, j < 2 → ∃ u, wr.cell? ⟨g, k * 2 + j, none⟩ = some u := fun j hj => by
        rw [hown.cellAt (k * 2 + j) (by omega)]
        have : k * 2 + j < (gks (kmD Dm) k ++ (knCs ps).drop (k * 2)).length := by rw [List.length_append, gks_len rfl, List.length_drop, hxl]; show _ < k * 2 + _; omega
        exact ⟨_, List.getElem?_eq_getElem this⟩
      obtain ⟨u0, h0⟩ := hcell 0 (by decide)
      obtain ⟨u1, h1⟩ := hcell 1 (by decide)
      have h0' : wr.cell? ⟨g, k * 2, none⟩ = some u0 := h0
      have f0 := hown.frozenAt (k * 2); have f1 := hown.frozenAt (k * 2 + 1)
      clear hown hkm h0 hbx hcell
      go_wp2_with fail
      have s1 := HO.out.stored (k * 2) (.string MARK)
      have s2 := s1.1.stored (k * 2 + 1) (.string Dm)
      have hst := s2.1
      rw [kfill Dm (knCs ps) ps.length k hxl hlt] at hst
      have q1 := KG.store (mc := kmD Dm) HO.out (k * 2) (u := .string MARK) (by rw [show k * 2 % 2 = 0 by omega]; rfl)
      have q2 := KG.store (mc := kmD Dm) s1.1 (k * 2 + 1) (u := .string Dm) (by rw [show (k * 2 + 1) % 2 = 1 by omega]; rfl)
      exact ⟨⟨k + 1, by omega, by go_num, hst, (HKm.out.trans q1).trans q2⟩, by simp [intOf]; omega⟩
    · have hkn : k = ps.length := by omega
      subst hkn
      have hlt' : ¬ (ps.length : Int) < (ps.length : Int) := by omega
      have HO1 : Hid (wr.ownsRow w0.heap.size 72 2 (.slice la ps.length lc) ps.length (gks (kmD Dm) ps.length)) := by
        have : (knCs ps).drop (ps.length * 2) = [] := List.drop_of_length_le (by omega)
        rw [this, List.append_nil] at hown
        exact hown
      have hsz := hkm.below.size
      clear hown hkm HO
      clear hbx
      go_wp2_with (first | (at_builtin; refine wpList_append_g (mc := kmD Dm) (E := 72) (k := 2) (by' := 32) Tryd.underlying70 HInp.out HZp.out HSp.out HByp.out rfl (by decide) rfl (by decide) (kmD_one Dm) _ rfl _ _ rfl w0.heap.size (.slice la ps.length lc) ps.length 1 1 rfl (HO1.out.alloc _) ⟨wr.heap.size, 0, none⟩ rfl (gks_news wr _ 1 _ rfl) (by omega) (by rw [size_alloc1]; omega) ?_; intro a1 c1 w1 ho1 hk1; have HK1 := hide (HKm.out.trans ((KG.above (E := 72) (k := 2) (mc := kmD Dm) (B := w0.heap.size) (by omega) ((Below.refl wr.heap.size wr).alloc (Nat.le_refl _) _)).trans hk1)); have HG1 := hide (own_gs (E := 72) (k := 2) (mc := kmD Dm) rfl (by decide) ho1 (by omega)); have HT1 := hide ((KG.above (E := 72) (k := 2) (mc := kmD Dm) (B := w0.heap.size) (by omega) ((Below.refl wr.heap.size wr).alloc (Nat.le_refl _) _)).trans hk1); have HL1 := hide (own_kg (E := 72) (k := 2) (mc := kmD Dm) rfl (by decide) (HO1.out.alloc _) hk1); have hs1 := hk1.below.size; rw [size_alloc1] at hs1; clear ho1 hk1; obtain ⟨y10, y11⟩ := kbox_cells (HBx.out.kg rfl HK1.out)) | (at_builtin; refine wpList_append_g (mc := kmD Dm) (E := 72) (k := 2) (by' := 32) Tryd.underlying70 HInp.out HZp.out HSp.out HByp.out rfl (by decide) rfl (by decide) (kmD_one Dm) _ rfl _ _ rfl w0.heap.size (.slice la ps.length lc) ps.length 2 2 rfl (HL1.out.alloc _) ⟨w1.heap.size, 0, none⟩ rfl (gks_news w1 _ 2 _ rfl) (by omega) (by rw [size_alloc1]; omega) ?_; intro a2 c2 w2 ho2 hk2; have HK2 := hide (HK1.out.trans ((KG.above (E := 72) (k := 2) (mc := kmD Dm) (B := w0.heap.size) (by omega) ((Below.refl w1.heap.size w1).alloc (Nat.le_refl _) _)).trans hk2)); have HG2 := hide (own_gs (E := 72) (k := 2) (mc := kmD Dm) rfl (by decide) ho2 (by omega)); have HT2 := hide ((KG.above (E := 72) (k := 2) (mc := kmD Dm) (B := w0.heap.size) (by omega) ((Below.refl w1.heap.size w1).alloc (Nat.le_refl _) _)).trans hk2); have HL2 := hide (own_kg (E := 72) (k := 2) (mc := kmD Dm) rfl (by decide) (HL1.out.alloc _) hk2); have hs2 := hk2.below.size; rw [size_alloc1] at hs2; clear ho2 hk2; obtain ⟨y20, y21⟩ := kbox_cells (HBx.out.kg rfl HK2.out)) | (at_builtin; refine wpList_append_g (mc := kmD Dm) (E := 72) (k := 2) (by' := 32) Tryd.underlying70 HInp.out HZp.out HSp.out HByp.out rfl (by decide) rfl (by decide) (kmD_one Dm) _ rfl _ _ rfl w0.heap.size (.slice la ps.length lc) ps.length 3 3 rfl (HL2.out.alloc _) ⟨w2.heap.size, 0, none⟩ rfl (gks_news w2 _ 3 _ rfl) (by omega) (by rw [size_alloc1]; omega) ?_; intro a3 c3 w3 ho3 hk3; have HK3 := hide (HK2.out.trans ((KG.above (E := 72) (k := 2) (mc := kmD Dm) (B := w0.heap.size) (by omega) ((Below.refl w2.heap.size w2).alloc (Nat.le_refl _) _)).trans hk3)); have HG3 := hide (own_gs (E := 72) (k := 2) (mc := kmD Dm) rfl (by decide) ho3 (by omega)); have HT3 := hide ((KG.above (E := 72) (k := 2) (mc := kmD Dm) (B := w0.heap.size) (by omega) ((Below.refl w2.heap.size w2).alloc (Nat.le_refl _) _)).trans hk3); have HL3 := hide (own_kg (E := 72) (k := 2) (mc := kmD Dm) rfl (by decide) (HL2.out.alloc _) hk3); have hs3 := hk3.below.size; rw [size_alloc1] at hs3; clear ho3 hk3; have HBk := hide (H0.out.above (HB.out.trans ((HBW.out.mono (by omega)).trans HK3.out.below))); have d0 := HBk.out.cf; have df := HBk.out.fz 2; have hN3 := HBk.out.nlt) | (at_builtin; refine wpList_append_lies _ rfl _ _ 25 rfl (N + 1) 70 inf _ 1 24 Tryd.underlying25 HInf.out HZ.out HSz.out HBy.out rfl (by decide) (.slice ia vs.length ic) vs.length vs rfl (HBk.out.row.alloc _) ⟨w3.heap.size, 0, none⟩ 4 4 [.slice la ps.length lc, .slice a1 (ps.length + 1) c1, .slice a2 (ps.length + 2) c2, .slice a3 (ps.length + 3) c3] rfl rfl (World.news_of_block (_root_.Go.heap_alloc_new w3 _)) (fun u hu => by simp at hu; rcases hu with rfl | rfl | rfl | rfl <;> rfl) (by decide) (by unfold maxLen; omega) (by omega) (by rw [size_alloc1]; omega) (w3.heap.size + 1) (by rw [size_alloc1]) ?_; intro g5 c5 w5 ho5 hg5 ha5 hl5; have HO5 := hide ho5; have HG5 := hide hg5; have k5 : w5.cell? ⟨N, 2, none⟩ = some (.slice ia vs.length ic) := (hg5.cell_far ⟨N, 2, none⟩ (by rw [size_alloc1]; show N < _; omega) (fun e => by have := (row_lt HBk.out.row N e.symm).1; omega)).trans ((World.cell?_of_block (Below.heap_alloc w3 _ N hN3)).trans d0); have kf5 : w5.frozen? ⟨N, 2, none⟩ = false := (hg5.frozen_far ⟨N, 2, none⟩ (by rw [size_alloc1]; show N < _; omega) (fun e => by have := (row_lt HBk.out.row N e.symm).1; omega)).trans ((World.frozen?_of_block (Below.heap_alloc w3 _ N hN3)).trans df); clear ho5 hg5 ha5))
      have M0 : GS 72 2 (kmD Dm) w3 (.slice la ps.length lc) := own_gs (E := 72) (k := 2) (mc := kmD Dm) rfl (by decide) HL3.out (by omega)
      have M1 : GS 72 2 (kmD Dm) w3 (.slice a1 (ps.length + 1) c1) := (HG1.out.kg HT2.out).kg HT3.out
      have M2 : GS 72 2 (kmD Dm) w3 (.slice a2 (ps.length + 2) c2) := HG2.out.kg HT3.out
      have M3 : GS 72 2 (kmD Dm) w3 (.slice a3 (ps.length + 3) c3) := HG3.out
      have hfin := bookF_add (by decide) (q := q) HBk.out g5 c5 _ _ rfl HO5.out HG5.out (fun v hv => by
        rw [HPm.out]
        simp at hv
        rcases hv with rfl | rfl | rfl | rfl
        · exact M0
        · exact M1
        · exact M2
        · exact M3) HQ.out
      go_end0
      refine ⟨rfl, ⟨_, ⟨_, hfin⟩, ?_⟩, ?_⟩
      · have := HQ.out
        simp
        omega
      · have hN0 := H0.out.nlt
        have b3 : Below N w0 w3 := (HB.out.trans ((HBW.out.mono (by omega)).trans HK3.out.below)).mono (by omega)
        exact ((b3.alloc (by omega) _).grown HG5.out (by rw [size_alloc1]; omega) (fun j hj => by have := (row_lt HBk.out.row j hj).1; omega)).setCell (p := ⟨N, 2, none⟩) (Nat.le_refl _) _
end Go.Proofs.YtmmflekajbeamaaDoor

namespace Go.Proofs.YtmmflekajbeamaaDoor
open Go.RowKit

abbrev BookK (N : Nat) (vs : List Value) (vi : Value) (w : World) : Prop := BookF 2 70 72 2 kmq N vs vi w

set_option maxRecDepth 100000 in
set_option maxHeartbeats 4000000 in
theorem lookPlans_f (N : Nat) (vs : List Value) (vi : Value) (w : World) (h : BookK N vs vi w) (hl : vs.length ≤ 400) :
    Calls Tryd.prog 44 #[.pointer (some ⟨N, 0, none⟩)] w fun e' w' => e' = .returned (.bool true) ∧ Below w.heap.size w w' := by
  obtain ⟨ia, ic, rfl⟩ := owns_len h.row
  have H := hide h
  have hNl := h.nlt
  have c1w := h.cf
  clear h
  go_enter Tryd.func44, Tryd.ntmps44
  go_wp2_with fail
  go_loopw [3] (fun i wr => ∃ k : Nat, k ≤ vs.length ∧ i = .int .i64 k ∧ Below w.heap.size w wr) (fun i _ => vs.length - (intOf i).toNat)
  case atStart => exact ⟨0, Nat.zero_le _, rfl, Below.refl _ _⟩
  case round =>
    obtain ⟨k, hk, rfl, hbl⟩ := hrel
    have HBl := hide hbl
    have hwz := hbl.size
    have HR := hide (H.out.above hbl)
    have c1 := HR.out.cf
    clear c1w
    by_cases hlt : k < vs.length
    · have hlt' : (k : Int) < (vs.length : Int) := by omega
      obtain ⟨g, c, hf, _, hgl⟩ := HR.out.row.form (by omega)
      cases hf
      obtain ⟨v, hv⟩ : ∃ v, vs[k]? = some v := ⟨vs[k], by simp [hlt]⟩
      have hcell : wr.cell? ⟨g, k, none⟩ = some v := (HR.out.row.cellAt k (by omega)).trans hv
      obtain ⟨a, n, cc, rfl, hnb, hms⟩ := HR.out.ms k v hv
      have HMs := hide hms
      clear hms hv hbl
      have HMk2 := hide (fun w' => markPlan_any (k / 4 * 4) w' (by omega))
      have hcm : ((k / 4 * 4 : Nat) : Int) = (k : Int) / 4 * 4 := by omega
      rw [hcm] at HMk2
      unfold kmq kmk at HMs
      rw [show 4 * (k / 4) = k / 4 * 4 by omega] at HMs
      generalize bya (numB 8 (k / 4 * 4)) = Dm at *
      clear hcm
      have hNr := HR.out.nlt
      go_wp2_with fail
      refine (unhide HMk2 _).mono ?_
      rintro e w1 ⟨rfl, hb1⟩
      have hs1 := hb1.size
      obtain ⟨W, hW⟩ : ∃ W, W = w1.alloc (.cells #[.string MARK, .string Dm] 72) := ⟨_, rfl⟩
      have HWe := hide hW
      have hbW : Below wr.heap.size wr W := by rw [hW]; exact hb1.alloc hs1 _
      have HBW := hide hbW
      have HBx : Hid (BoxG 72 (kmD Dm) W w1.heap.size) := by unfold Hid; rw [hW]; exact _root_.Go.heap_alloc_new w1 _
      have hsW : W.heap.size = w1.heap.size + 1 := by rw [hW, size_alloc1]
      clear hb1 hbW hW
      go_wp2_with fail
      rw [← HWe.out]
      obtain ⟨wo, hwo⟩ : ∃ wo, wo = wr := ⟨_, rfl⟩
      subst hwo
      go_loopw [5] (fun j wr2 => ∃ i : Nat, i ≤ n ∧ j = .int .i64 i ∧ Below W.heap.size W wr2) (fun j _ => n - (intOf j).toNat)
      case atStart => exact ⟨0, Nat.zero_le _, rfl, Below.refl _ _⟩
      case round =>
        obtain ⟨wr2, hwr2⟩ : ∃ wr2, wr2 = wr := ⟨_, rfl⟩
        subst hwr2
        obtain ⟨i, hi, rfl, hb2⟩ := hrel
        have HB2 := hide hb2
        have hrr : Below wo.heap.size wo wr2 := HBW.out.trans (hb2.mono HBW.out.size)
        have d1 := (below_cell' hrr N 2 hNr).trans c1
        have d2 := (below_cell' hrr g k hgl).trans hcell
        obtain ⟨x0, x1⟩ := kbox_cells (HBx.out.below hb2)
        by_cases hin : i < n
        · have hin' : (i : Int) < (n : Int) := by omega
          obtain ⟨g2, cur, rfl, hg2, hcur⟩ := HMs.out (by omega)
          have hg2' : wr2.heap[g2]? = some (.cells cur 72 (0, 0)) := (hrr.block g2 (Array.getElem?_eq_some_iff.1 hg2).1).trans hg2
          have ce : ∀ j u, j < 2 → (kmD Dm)[j]? = some u → wr2.cell? ⟨g2, i * 2 + j, none⟩ = some u := fun j u hj hu => by
            rw [cell_of_row wr2 g2 (i * 2 + j) cur _ _ hg2']
            exact hcur (i * 2 + j) u (by omega) (by rw [show (i * 2 + j) % 2 = j by omega]; exact hu)
          have y0 : wr2.cell? ⟨g2, i * 2, none⟩ = some (.string MARK) := ce 0 _ (by decide) rfl
          have y1 : wr2.cell? ⟨g2, i * 2 + 1, none⟩ = some (.string Dm) := ce 1 _ (by decide) rfl
          clear hg2 hcur hg2' ce hb2 hrr c1 hcell
          go_wp2_with fail
          go_quiet (fail)
          go_wp2_with fail
          exact ⟨⟨i + 1, by omega, by go_num, below_drewN HB2.out nq⟩, by simp [intOf]; omega⟩
        · have hin' : ¬ (i : Int) < (n : Int) := by omega
          have HE : Hid (Below w.heap.size w wr2) := HBl.out.trans (hrr.mono hwz)
          clear hb2 hrr c1 hcell
          go_wp2_with fail
          exact ⟨⟨k + 1, by omega, by go_num, HE.out⟩, by simp [intOf]; omega⟩
    · have hlt' : ¬ (k : Int) < (vs.length : Int) := by omega
      clear hbl
      go_wp2_with fail
      go_ret
      exact ⟨rfl, HBl.out⟩

set_option maxRecDepth 100000 in
set_option maxHeartbeats 2000000 in
theorem lookPuts_nil (N : Nat) (w : World) (c1 : w.cell? ⟨N, 1, none⟩ = some (.slice none 0 0)) :
    Calls Tryd.prog 43 #[.pointer (some ⟨N, 0, none⟩)] w fun e' w' => e' = .returned (.bool true) ∧ w' = w := by
  go_enter Tryd.func43, Tryd.ntmps43
  go_wp2_with fail
  go_loop [3] (fun i => i = .int .i64 0) (fun _ => 0)
  case atStart => rfl
  case round =>
    subst hrel
    go_wp2_with fail
    go_ret
    exact ⟨rfl, rfl⟩
set_option maxRecDepth 100000 in
set_option maxHeartbeats 2000000 in
theorem looks_plans (N : Nat) (vs : List Value) (vi : Value) (w : World) (h : BookK N vs vi w) (hl : vs.length ≤ 400) :
    Calls Tryd.prog 13 #[.pointer (some ⟨N, 0, none⟩)] w fun e' w' => e' = .returned (.bool true) ∧ Below w.heap.size w w' := by
  have HI := hide (lookInts_nil N w (h.cn 0 (by decide) (by decide)))
  have HP := hide (lookPuts_nil N w (h.cn 1 (by decide) (by decide)))
  have HL := hide (lookPlans_f N vs vi w h hl)
  clear h
  go_enter Tryd.func13, Tryd.ntmps13
  go_wp2_with fail
  refine (unhide HI).mono ?_
  rintro e w' ⟨rfl, hw⟩
  obtain rfl := hw.symm
  go_wp2_with fail
  refine (unhide HP).mono ?_
  rintro e w' ⟨rfl, hw⟩
  obtain rfl := hw.symm
  go_wp2_with fail
  refine (unhide HL).mono ?_
  rintro e w1 ⟨rfl, hb1⟩
  have HB := hide hb1
  clear hb1
  go_wp2_with fail
  go_ret
  exact ⟨rfl, HB.out⟩
end Go.Proofs.YtmmflekajbeamaaDoor

namespace Go.Proofs.YtmmflekajbeamaaDoor
open Go.RowKit

theorem scn_len : ∀ (f : Nat) (a : ArN) (l : List UInt8), (scn f a l).list.length ≤ a.list.length + l.length := by
  intro f
  induction f with
  | zero => intro a l; rw [scn]; omega
  | succ f ih =>
    intro a l
    rw [scn]
    cases hf : frst l with
    | none => simp only; omega
    | some x =>
      obtain ⟨k, p⟩ := x
      simp only
      cases ht : arT a k p with
      | none => simp only; omega
      | some a' =>
        simp only
        have h1 := ih a' (l.drop (p.length + 8))
        have h2 := (arT_good ht).2.2
        have h3 := (frst_some hf).2.2.2.1
        rw [List.length_drop] at h1
        omega
theorem scan_len (s : ByteArray) : (scan (lst s)).list.length ≤ s.size := by
  have := scn_len ((lst s).length + 1) ar0 (lst s)
  rw [lst_len] at this
  unfold scan
  rw [lst_len]
  have h0 : (ar0).list.length = 0 := rfl
  omega

set_option maxRecDepth 100000 in
set_option maxHeartbeats 1000000 in
theorem cribSum_any (s : ByteArray) (w : World) (hs : s.size ≤ maxLen) :
    Calls Tryd.prog 63 #[.string s] w fun e' w' => e' = .returned (.int .i64 (crc (lst s) : Nat)) ∧ w' = w := by
  have H := hide (frSum_any s w hs)
  generalize ((crc (lst s) : Nat) : Int) = c at *
  go_enter Tryd.func63, Tryd.ntmps63
  go_wp2_with fail
  refine (unhide H).mono ?_
  rintro e w' ⟨rfl, hw⟩
  obtain rfl := hw.symm
  go_wp2_with fail
  go_ret
  exact ⟨rfl, rfl⟩

set_option maxRecDepth 100000 in
set_option maxHeartbeats 1000000 in
theorem cribSeal_any (kind : Int) (p : ByteArray) (w : World) :
    Calls Tryd.prog 35 #[.int .i64 kind, .string p] w (SealPost kind p w) := by
  have H := hide (frSeal_any kind p w)
  go_enter Tryd.func35, Tryd.ntmps35
  go_wp2_with fail
  refine (unhide H).mono ?_
  intro e w1 hp
  obtain ⟨D, n, rfl⟩ := hp.form
  have HP := hide hp
  clear hp
  go_wp2_with fail
  go_ret2
  exact HP.out

set_option maxRecDepth 100000 in
set_option maxHeartbeats 2000000 in
theorem seals_any (kind : Int) (s : ByteArray) (w : World) (hs : s.size ≤ maxLen) :
    Calls Tryd.prog 33 #[.int .i64 kind, .string s] w fun e' w' => e' = .returned (.bool true) ∧ Below w.heap.size w w' := by
  have H1 := hide (cribSum_any s w hs)
  have H2 := hide (refSum_any s w hs)
  have H3 := hide (cribSeal_any kind s w)
  have H4 := hide (fun w' => refSeal_any kind s w')
  generalize ((crc (lst s) : Nat) : Int) = c at *
  go_enter Tryd.func33, Tryd.ntmps33
  go_wp2_with fail
  refine (unhide H1).mono ?_
  rintro e w' ⟨rfl, hw⟩
  obtain rfl := hw.symm
  go_wp2_with fail
  refine (unhide H2).mono ?_
  rintro e w' ⟨rfl, hw⟩
  obtain rfl := hw.symm
  go_wp2_with fail
  refine (unhide H3).mono ?_
  intro e w1 hp1
  obtain ⟨D, n, rfl⟩ := hp1.form
  have HP1 := hide hp1
  have HB1 : Hid (Below w.heap.size w w1) := hp1.1
  clear hp1
  go_wp2_with fail
  refine (unhide H4 _).mono ?_
  intro e w2 hp2
  have he := SealPost.one HP1.out hp2
  subst he
  have HB2 : Hid (Below w.heap.size w w2) := HB1.out.trans (hp2.1.mono HB1.out.size)
  have HNm := hide (fun w' => num_any n w')
  clear hp2
  go_wp2_with fail
  refine (unhide HNm _).mono ?_
  rintro e w' ⟨rfl, hw'⟩
  obtain rfl := hw'.symm
  go_wp2_with fail
  go_ret
  exact ⟨ret_bool (by simp), HB2.out⟩

set_option maxRecDepth 100000 in
set_option maxHeartbeats 2000000 in
theorem cribScan_any (s : ByteArray) (w : World) (ht : Tab w) (hs : s.size ≤ 4611686018427387904) (hsl : (scan (lst s)).list.length ≤ 1048576) :
    Calls Tryd.prog 37 #[.string s] w (ScanPost s w) := by
  have zz := zero74
  obtain ⟨W0, hW0⟩ : ∃ W0, W0 = w.alloc (.cells (arV 0 false 0 (.slice none 0 0)) 74) := ⟨_, rfl⟩
  have HW0 := hide hW0
  have hb0 : Below w.heap.size w W0 := by rw [hW0]; exact (Below.refl _ _).alloc (Nat.le_refl _) _
  have r0 : W0.heap[w.heap.size]? = some (.cells (arV 0 false 0 (.slice none 0 0)) 74 (0, 0)) := by rw [hW0, _root_.Go.heap_alloc_new]
  have hz0 : W0.heap.size = w.heap.size + 1 := by rw [hW0, size_alloc1]
  have H := hide (frScan_any s W0 (ht.below ht.pos hb0) hs hsl)
  have HB0 := hide hb0; have HR0 := hide r0
  clear hb0 r0 hW0 ht hsl
  go_enter Tryd.func37, Tryd.ntmps37
  go_wp2_with fail
  rw [← HW0.out]
  refine (unhide H).mono ?_
  rintro e w1 ⟨hb1, v, rfl, ho1⟩
  have R1 : w1.heap[w.heap.size]? = some (.cells (arV 0 false 0 (.slice none 0 0)) 74 (0, 0)) := (hb1.block _ (by omega)).trans HR0.out
  have HR1 := hide R1
  have hone := arV_one (scan (lst s)).gen (scan (lst s)).whole (scan (lst s)).good v (own_one ho1)
  have HEnd : Hid (ScanPost s w (.returned (.agg (arV (scan (lst s)).gen (scan (lst s)).whole (scan (lst s)).good v))) (w1.setRow w.heap.size (arV (scan (lst s)).gen (scan (lst s)).whole (scan (lst s)).good v))) := by
    refine ⟨below_setRow (HB0.out.trans (hb1.mono (by omega))) (Nat.le_refl _) _, v, rfl, ?_⟩
    refine own_base (B := W0.heap.size) (ownsRow_keep ho1 (fun g hg => setRow_other _ _ _ _ (fun e => ?_))) (by omega)
    have := (row_lt ho1 g hg).1
    omega
  clear hb1 ho1 R1
  generalize scan (lst s) = a at *
  go_wp2_with (refine wpList_store_row rfl 74 _ _ rfl w.heap.size (arV a.gen a.whole a.good v) rfl rfl 74 _ HR1.out size74 rfl hone ?_)
  exact bodyPost_ret (v := .agg (arV a.gen a.whole a.good v)) (results_cell_row Tryd.results37 _ _ w.heap.size 74 _ _ _ rfl (setRow_heap _ _ _ _ _ (0, 0) HR1.out) Tryd.underlying74 rfl size74) rfl HEnd.out
end Go.Proofs.YtmmflekajbeamaaDoor

namespace Go.Proofs.YtmmflekajbeamaaDoor
open Go.RowKit

set_option maxRecDepth 100000 in
set_option maxHeartbeats 1000000 in
theorem keepNumber_any (v n : Nat) (w : World) (hn : n ≤ 8) (hv : v < 9223372036854775808) :
    Calls Tryd.prog 36 #[.int .i64 (v : Int), .int .i64 (n : Int)] w fun e' w' => e' = .returned (.string (bya (numB n v))) ∧ Below w.heap.size w w' := by
  go_enter Tryd.func36, Tryd.ntmps36
  go_wp2_with fail
  go_loopw [0, 5, 6] (fun x s i wr => ∃ k : Nat, k ≤ n ∧ i = .int .i64 k ∧ s = .string (bya (numB k v)) ∧ x = .int .i64 ((v / 256 ^ k : Nat) : Int) ∧ Below w.heap.size w wr) (fun _ _ i _ => n - (intOf i).toNat)
  case atStart => exact ⟨0, Nat.zero_le _, rfl, rfl, by simp, Below.refl _ _⟩
  case round =>
    obtain ⟨k, hk, rfl, rfl, rfl, hbl⟩ := hrel
    have HBl := hide hbl
    have hwz := hbl.size
    by_cases hlt : k < n
    · have hlt' : (k : Int) < (n : Int) := by omega
      have hq : v / 256 ^ k < 9223372036854775808 := Nat.lt_of_le_of_lt (Nat.div_le_self _ _) hv
      have HE := hide (numB_succ k v)
      have HQ : Hid (v / 256 ^ (k + 1) = v / 256 ^ k / 256) := by unfold Hid; rw [Nat.pow_succ, Nat.div_div_eq_div_mul]
      have kc := byte_str wr (v / 256 ^ k)
      have z1 : (bya (numB k v)).size ≤ 8 := by rw [bya_size, numB_len]; omega
      have z2 : (bya [UInt8.ofNat (v / 256 ^ k % 256)]).size ≤ 8 := by rw [bya_size]; exact Nat.le_of_ble_eq_true rfl
      generalize bya (numB k v) = D1 at *
      generalize bya [UInt8.ofNat (v / 256 ^ k % 256)] = D2 at *
      generalize v / 256 ^ k = q at *
      clear hbl
      go_wp2_with fail
      refine ⟨⟨k + 1, by omega, by go_num, ?_, ?_, HBl.out.alloc hwz _⟩, by simp [intOf]; omega⟩
      · rw [HE.out]
      · rw [HQ.out]; go_num
    · have hlt' : ¬ (k : Int) < (n : Int) := by omega
      obtain rfl : k = n := by omega
      clear hbl
      go_wp2_with fail
      go_ret
      exact ⟨rfl, HBl.out⟩

set_option maxRecDepth 100000 in
set_option maxHeartbeats 1000000 in
theorem keepValue_any (s : ByteArray) (i n : Nat) (w : World) (hn : n ≤ 4) (hi : i + n ≤ s.size) (hs : s.size ≤ 100000) :
    Calls Tryd.prog 32 #[.string s, .int .i64 i, .int .i64 n] w fun e' w' => e' = .returned (.int .i64 (beN s i n)) ∧ w' = w := by
  go_enter Tryd.func32, Tryd.ntmps32
  go_wp2_with fail
  go_loop [7, 8] (fun v j => ∃ k : Nat, k ≤ n ∧ j = .int .i64 ((i + k : Nat) : Int) ∧ v = .int .i64 (beN s i k)) (fun _ j => i + n - (intOf j).toNat)
  case atStart => exact ⟨0, Nat.zero_le _, by simp, rfl⟩
  case round =>
    obtain ⟨k, hk, rfl, rfl⟩ := hrel
    by_cases hlt : k < n
    · have hlt' : ((i + k : Nat) : Int) < (i : Int) + (n : Int) := by omega
      have hin : i + k < s.size := by omega
      have hgb := bt_get s (i + k) hin
      have hbl := bt_lt s (i + k)
      have hv := beN_le3 s i k (by omega)
      have HS : Hid (beN s i (k + 1) = beN s i k * 256 + bt s (i + k)) := by unfold Hid; rw [beN_succ]
      generalize beN s i k = v at *
      have hin' : ((i + k : Nat) : Int) < (s.size : Int) := by omega
      have HJ : Hid (((i + k : Nat) : Int) + 1 = ((i + (k + 1) : Nat) : Int)) := by unfold Hid; omega
      have HM : Hid (i + n - (i + (k + 1)) < i + n - (i + k)) := by unfold Hid; omega
      generalize i + k = j at *
      go_wp2_with fail
      refine ⟨⟨k + 1, by omega, by rw [HJ.out], ?_⟩, ?_⟩
      · rw [HS.out]
        go_num
      · rw [HJ.out]; simp only [intOf, Int.toNat_natCast]; exact HM.out
    · have hkn : k = n := by omega
      subst hkn
      have hlt' : ¬ ((i + k : Nat) : Int) < (i : Int) + (k : Int) := by omega
      go_wp2_with fail
      go_ret
      exact ⟨rfl, rfl⟩

theorem plB_dec (op a b c : Int) : plB op a b c = decide (a < 8 ∧ (op = 1 ∨ (2 ≤ op ∧ op ≤ 5 ∧ b < 8 ∧ c < 8) ∨ (op = 6 ∧ b < 8))) := by
  unfold plB
  by_cases h1 : op = 1
  · rw [if_pos h1, decide_eq_decide]; omega
  rw [if_neg h1]
  by_cases h2 : 2 ≤ op ∧ op ≤ 5
  · rw [if_pos h2, decide_eq_decide]; omega
  rw [if_neg h2]
  by_cases h6 : op = 6
  · rw [if_pos h6, decide_eq_decide]; omega
  rw [if_neg h6]
  symm
  rw [decide_eq_false_iff_not]; omega
set_option maxRecDepth 100000 in
set_option maxHeartbeats 2000000 in
theorem keepPlain_any (v : Nat) (w : World) (hv : v < 4294967296) :
    Calls Tryd.prog 60 #[.int .i64 (v : Int)] w fun e' w' => e' = .returned (.bool (plW (v : Int))) ∧ w' = w := by
  have e0 : (v : Int) / 16777216 = fop (v : Int) := by unfold fop; omega
  have e1 : (v : Int) / 1048576 % 16 = fa (v : Int) := rfl
  have e2 : (v : Int) / 65536 % 16 = fb (v : Int) := rfl
  have e3 : (v : Int) / 4096 % 16 = fc (v : Int) := rfl
  obtain ⟨o0, o1⟩ := fop_bd (v : Int)
  obtain ⟨a0, a1⟩ := fa_bd (v : Int)
  obtain ⟨b0, b1⟩ := fb_bd (v : Int)
  obtain ⟨c0, c1⟩ := fc_bd (v : Int)
  unfold plW
  rw [plB_dec]
  generalize fop (v : Int) = op at *
  generalize fa (v : Int) = a at *
  generalize fb (v : Int) = b at *
  generalize fc (v : Int) = c at *
  go_enter Tryd.func60, Tryd.ntmps60
  go_wp2_with fail
  all_goals
    go_ret
    refine ⟨ret_bool ?_, rfl⟩
    clear e0 e1 e2 e3 hv
    go_light
    refine Bool.eq_iff_iff.2 ?_
    simp only [Bool.or_eq_true, Bool.and_eq_true, decide_eq_true_eq, beq_iff_eq, Bool.false_eq_true, true_iff, false_iff, eq_self] at *
    try omega

set_option maxRecDepth 100000 in
set_option maxHeartbeats 2000000 in
theorem plains_any (s : ByteArray) (w : World) (h : blkOK s) :
    Calls Tryd.prog 28 #[.string s] w fun e' w' => e' = .returned (.int .i64 (nPl s : Nat)) ∧ w' = w := by
  have hs4 := h.1; have hs32 := h.2.1; have hm4 := h.2.2.1
  have hnp := nPl_le s
  have hnp2 : s.size / 4 - 1 ≤ nPl s := by unfold nPl; split <;> omega
  have HPl := hide (fun k (hk : k < nPl s) => blk_plain h hk)
  have HNp : Hid (nPl s < s.size / 4 → plW (wdAt s (nPl s) : Nat) = false) := fun hlt => by
    cases hq : plW (wdAt s (nPl s) : Nat)
    · rfl
    · exfalso
      have e : nPl s = s.size / 4 - 1 := by omega
      rw [e] at hq
      have : nPl s = s.size / 4 := by unfold nPl; rw [if_pos hq]
      omega
  clear h
  go_enter Tryd.func28, Tryd.ntmps28
  go_wp2_with fail
  go_loop [3] (fun i => ∃ k : Nat, k ≤ nPl s ∧ i = .int .i64 k) (fun i => s.size / 4 - (intOf i).toNat)
  case atStart => exact ⟨0, Nat.zero_le _, rfl⟩
  case round =>
    obtain ⟨k, hk, rfl⟩ := hrel
    by_cases hlt : k < s.size / 4
    · have hlt' : 4 * (k : Int) < (s.size : Int) := by omega
      have hj : 4 * k + 4 ≤ s.size := by omega
      have hwl := wdAt_lt s k
      have hv : ∀ w', Calls Tryd.prog 32 #[.string s, .int .i64 (4 * (k : Int)), .int .i64 4] w' fun e' w'' => e' = .returned (.int .i64 (wdAt s k : Nat)) ∧ w'' = w' := fun w' => by
        have := keepValue_any s (4 * k) 4 w' (by decide) (by omega) (by omega)
        rw [show ((4 * k : Nat) : Int) = 4 * (k : Int) by omega] at this
        exact this
      have HV := hide hv
      have HP := hide (fun w' => keepPlain_any (wdAt s k) w' hwl)
      by_cases hkp : k < nPl s
      · have hp := HPl.out k hkp
        rw [hp] at HP
        clear hv hp
        generalize wdAt s k = x at *
        go_wp2_with fail
        refine (unhide HV _).mono ?_
        rintro e w' ⟨rfl, hw⟩
        obtain rfl := hw.symm
        go_wp2_with fail
        refine (unhide HP _).mono ?_
        rintro e w' ⟨rfl, hw⟩
        obtain rfl := hw.symm
        go_wp2_with fail
        exact ⟨⟨k + 1, by omega, by go_num⟩, by simp [intOf]; omega⟩
      · have hke : nPl s = k := by omega
        have hp := HNp.out (by omega)
        rw [hke] at hp
        rw [hp] at HP
        clear hv hp
        generalize wdAt s k = x at *
        go_wp2_with fail
        refine (unhide HV _).mono ?_
        rintro e w' ⟨rfl, hw⟩
        obtain rfl := hw.symm
        go_wp2_with fail
        refine (unhide HP _).mono ?_
        rintro e w' ⟨rfl, hw⟩
        obtain rfl := hw.symm
        go_wp2_with fail
        go_ret
        exact ⟨ret_int (by omega), rfl⟩
    · have hlt' : ¬ 4 * (k : Int) < (s.size : Int) := by omega
      have hke : nPl s = k := by omega
      go_wp2_with fail
      go_ret
      exact ⟨ret_int (by omega), rfl⟩
end Go.Proofs.YtmmflekajbeamaaDoor
