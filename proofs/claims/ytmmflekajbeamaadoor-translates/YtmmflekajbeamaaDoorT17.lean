/-
  Plans: the fields of a block's plain words (Plain); puts that do what plain words do (ofWord, OfWords).
  THE LAW Written: its small functions: pick, digits.
  THE LAW Written: its small functions: digits.
  Plans, the document's answer: numbers as texts; expressions as texts (Number, constant, joined, loaded, begin).
-/
import Derived.Test.YtmmflekajbeamaaDoorT16
import Derived.Test.YtmmflekajbeamaaDoorT02
import Derived.Laws.IdiomStrings
import Derived.Test.YtmmflekajbeamaaDoorT12
namespace Go.Proofs.YtmmflekajbeamaaDoor
open Go.RowKit

def fldCs (l : List Nat) : List Value := l.flatMap fun v : Nat => (fieldsV (v : Int)).toList
theorem fldCs_snoc (l : List Nat) (v : Nat) : fldCs (l ++ [v]) = fldCs l ++ (fieldsV (v : Int)).toList := by simp [fldCs]
theorem infoFld : ∃ i, Tryd.prog.info? 166 = some i ∧ i.zero = some (.agg #[.int .i64 0, .int .i64 0, .int .i64 0, .int .i64 0, .int .i64 0]) ∧ i.size = 5 ∧ i.bytes = 40 := by
  have h : (Tryd.prog.info? 166).map (fun i => (i.zero, i.size, i.bytes)) = some (some (.agg #[.int .i64 0, .int .i64 0, .int .i64 0, .int .i64 0, .int .i64 0]), 5, 40) := by kernel_rfl
  cases hq : Tryd.prog.info? 166 with
  | none => rw [hq] at h; cases h
  | some i =>
    rw [hq] at h
    simp only [Option.map_some, Option.some.injEq, Prod.mk.injEq] at h
    exact ⟨i, rfl, h.1, h.2.1, h.2.2⟩
theorem plN_le (ws : List Nat) : plN ws ≤ ws.length := by unfold plN; split <;> omega
theorem take_snoc' {α : Type} {l : List α} {k : Nat} {x : α} (h : l[k]? = some x) : l.take (k + 1) = l.take k ++ [x] := by
  rw [List.take_add_one, h]; rfl

set_option maxRecDepth 100000 in
set_option maxHeartbeats 2000000 in
theorem plain_list (ws : List Nat) (w : World) (ht : Tab w) (hl : ws.length ≤ 8) (hw : ∀ v ∈ ws, v < 4294967296) :
    Calls Tryd.prog 103 #[.agg (S (wdZ ws))] w fun e' w' => Below w.heap.size w w' ∧ ∃ v, e' = .returned v ∧ w'.ownsRow w.heap.size 166 5 v (plN ws) (fldCs (ws.take (plN ws))) := by
  obtain ⟨inf, hinf, hz, hsz1, hby⟩ := infoFld
  have HInf := hide hinf; have HZ := hide hz; have HSz := hide hsz1; have HBy := hide hby
  clear hinf hz hsz1 hby
  have hzl := wdZ_len hl
  have hr : RowI (w.alloc (.cells (S (wdZ ws)) 127)) w.heap.size 127 (wdZ ws) := _root_.Go.heap_alloc_new w _
  have hb1 := hide ((Below.refl w.heap.size w).alloc (Nat.le_refl _) (.cells (S (wdZ ws)) 127))
  have HP := hide (plainLen_any ws (w.alloc (.cells (S (wdZ ws)) 127)) (ht.below ht.pos hb1.out) hl hw)
  have hn8 : plN ws ≤ 8 := Nat.le_trans (plN_le ws) hl
  have hn8' : ((plN ws : Nat) : Int) ≤ 8 := by omega
  have hnl := plN_le ws
  have rI := hr.isRow 9 hzl
  have rD := hr.rowD
  have HRr := hide hr
  have HWd : Hid (∀ k, k < plN ws → ws[k]? = some (ws.getD k 0) ∧ ws.getD k 0 < 4294967296 ∧ gz (wdZ ws) (1 + k) = (ws.getD k 0 : Nat)) := fun k hk => by
    have hk' : k < ws.length := by omega
    refine ⟨by rw [List.getD_eq_getElem?_getD, List.getElem?_eq_getElem hk']; rfl, ?_, wdZ_at hk'⟩
    rw [List.getD_eq_getElem?_getD, List.getElem?_eq_getElem hk']
    exact hw _ (List.getElem_mem _)
  clear hr
  generalize hnn : plN ws = n at *
  clear hnn ht hw
  go_enter Tryd.func103, Tryd.ntmps103
  go_wp2_with (refine wpList_loadR rfl Tryd.underlying127 size9 rfl _ rfl w.heap.size rfl rI _ rD ?_)
  refine (unhide HP).mono ?_
  rintro e w1 ⟨rfl, hb2⟩
  have HR1 := hide (HRr.out.keep (hb2.block _ (by rw [size_alloc1]; omega)))
  have HB1 : Hid (Below w.heap.size w w1) := hb1.out.trans (hb2.mono (by rw [size_alloc1]; omega))
  have hz1 : w.heap.size < w1.heap.size := HR1.out.lt
  clear hb2 rI rD HP
  go_wp2_with fail
  go_loopw [3, 11] (fun v i wr => ∃ k : Nat, k ≤ n ∧ i = .int .i64 k ∧ wr.ownsRow (w.heap.size + 1) 166 5 v k (fldCs (ws.take k)) ∧ RowI wr w.heap.size 127 (wdZ ws) ∧ Below w.heap.size w wr) (fun _ i _ => n - (intOf i).toNat)
  case atStart => exact ⟨0, Nat.zero_le _, rfl, World.ownsRow_nil _ _ _ _, HR1.out, HB1.out⟩
  case round =>
    obtain ⟨k, hk, rfl, hown, hrow, hbl⟩ := hrel
    obtain ⟨va, vc, hv⟩ := owns_len hown
    subst hv
    have HO := hide hown; have HBl := hide hbl; have HRw := hide hrow
    have hwz : w.heap.size < wr.heap.size := hrow.lt
    by_cases hlt : k < n
    · have hlt' : (k : Int) < (n : Int) := by omega
      obtain ⟨e1, e2, e3⟩ := HWd.out k hlt
      have cc := hrow.cell (1 + k) (by omega)
      rw [e3] at cc
      have HS : Hid (fldCs (ws.take (k + 1)) = fldCs (ws.take k) ++ (fieldsV (ws.getD k 0 : Nat)).toList) := by unfold Hid; rw [take_snoc' e1, fldCs_snoc]
      have HSp := hide (fun w' => split_any (ws.getD k 0 : Nat) w' (by omega) (by omega))
      simp only [fieldsV] at HS
      generalize ws.getD k 0 = x at *
      generalize fop (x : Int) = f0 at *
      generalize fa (x : Int) = f1 at *
      generalize fb (x : Int) = f2 at *
      generalize fc (x : Int) = f3 at *
      generalize fk (x : Int) = f4 at *
      clear e1 e2 e3 hown hrow hbl
      go_wp2_with fail
      refine (unhide HSp _).mono ?_
      rintro e w2 ⟨rfl, hb2⟩
      have HB2 := hide hb2
      have hz2 := hb2.size
      have HO2 := hide (own_grow HO.out hb2)
      clear hb2
      go_wp2_with (at_builtin; refine wpList_append_lies _ rfl _ _ 135 rfl (w.heap.size + 1) 166 inf _ 5 40 Tryd.underlying135 HInf.out HZ.out HSz.out HBy.out rfl (by decide) (.slice va k vc) k (fldCs (ws.take k)) rfl (HO2.out.alloc _) ⟨w2.heap.size, 0, none⟩ 1 1 [.int .i64 f0, .int .i64 f1, .int .i64 f2, .int .i64 f3, .int .i64 f4] rfl rfl (World.news_of_block (_root_.Go.heap_alloc_new w2 _)) (fun u hu => by simp at hu; rcases hu with rfl | rfl | rfl | rfl | rfl <;> rfl) (by decide) (by unfold maxLen; omega) (by omega) (by rw [size_alloc1]; omega) (w2.heap.size + 1) (by rw [size_alloc1]) ?_; intro g2' cap2 w3 hown2 hgr2 hat2 hlt2; have HO3 := hide hown2; have HGr := hide hgr2; clear hown2 hgr2 hat2)
      refine ⟨⟨k + 1, by omega, by go_num, ?_, ?_, ?_⟩, by simp [intOf]; omega⟩
      · rw [HS.out]
        exact HO3.out
      · refine (HRw.out.keep (HB2.out.block _ hwz)).keep ((HGr.out.block _ (by show w.heap.size < (w2.alloc _).heap.size; rw [size_alloc1]; omega) (fun e => ?_)).trans (Below.heap_alloc w2 _ _ (by omega)))
        have := (row_lt HO2.out _ e.symm).1
        omega
      · exact ((HBl.out.trans (HB2.out.mono (by omega))).alloc (by omega) _).grown HGr.out (by rw [size_alloc1]; omega) (fun q hq => by have := (row_lt HO2.out q hq).1; omega)
    · have hlt' : ¬ (k : Int) < (n : Int) := by omega
      obtain rfl : n = k := by omega
      have HO' : Hid (wr.ownsRow w.heap.size 166 5 (.slice va n vc) n (fldCs (ws.take n))) := ⟨HO.out.1, HO.out.2.imp id (fun ⟨g, cap, cur, q1, q2, q3⟩ => ⟨g, cap, cur, q1, by omega, q3⟩)⟩
      clear hown hrow hbl
      go_wp2_with fail
      go_ret
      exact ⟨HBl.out, _, rfl, HO'.out⟩

theorem putW_set {v : Int} (h : fop v = 1) : putV (putW v) = #[.int .i64 1, .int .i64 (fa v), .int .i64 0, .int .i64 0, .int .i64 (fk v)] := by
  have a := fa_bd v; have k := fk_bd v
  unfold putW putV
  rw [if_pos h]
  simp only [Int.toNat_of_nonneg a.1, Int.toNat_of_nonneg k.1]
  rfl
theorem putW_load {v : Int} (h : fop v = 6) : putV (putW v) = #[.int .i64 6, .int .i64 (fa v), .int .i64 (fb v), .int .i64 0, .int .i64 (fk v)] := by
  have a := fa_bd v; have b := fb_bd v; have k := fk_bd v
  unfold putW putV
  rw [if_neg (by omega), if_pos h]
  simp only [Int.toNat_of_nonneg a.1, Int.toNat_of_nonneg b.1, Int.toNat_of_nonneg k.1]
  rfl
theorem putW_op {v : Int} (h1 : ¬ fop v = 1) (h6 : ¬ fop v = 6) : putV (putW v) = #[.int .i64 (fop v), .int .i64 (fa v), .int .i64 (fb v), .int .i64 (fc v), .int .i64 0] := by
  have o := fop_bd v; have a := fa_bd v; have b := fb_bd v; have c := fc_bd v
  unfold putW putV
  rw [if_neg h1, if_neg h6]
  simp only [Int.toNat_of_nonneg o.1, Int.toNat_of_nonneg a.1, Int.toNat_of_nonneg b.1, Int.toNat_of_nonneg c.1]
  rfl
set_option maxRecDepth 100000 in
set_option maxHeartbeats 2000000 in
theorem ofWord_any (v : Int) (w : World) :
    Calls Tryd.prog 139 #[.agg (fieldsV v)] w fun e' w' => e' = .returned (.agg (putV (putW v))) ∧ Below w.heap.size w w' := by
  have hb2 : ∀ o1 o2, Below w.heap.size w ((w.alloc o1).alloc o2) := fun o1 o2 => ((Below.refl _ _).alloc (Nat.le_refl _) _).alloc (by rw [size_alloc1]; omega) _
  have HB := hide hb2
  clear hb2
  unfold fieldsV
  by_cases h1 : fop v = 1
  · have HE := hide (putW_set h1)
    rw [h1]
    generalize fa v = a at *
    generalize fb v = b at *
    generalize fc v = c at *
    generalize fk v = k at *
    clear h1
    go_enter Tryd.func139, Tryd.ntmps139
    go_wp2_with fail
    rw [HE.out]
    exact bodyPost_ret (v := .agg #[.int .i64 1, .int .i64 a, .int .i64 0, .int .i64 0, .int .i64 k]) (by simp [results, Tryd.results139, go_sem]) rfl ⟨rfl, HB.out _ _⟩
  · have h1' : (fop v == 1) = false := by simpa using h1
    by_cases h6 : fop v = 6
    · have HE := hide (putW_load h6)
      rw [h6]
      generalize fa v = a at *
      generalize fb v = b at *
      generalize fc v = c at *
      generalize fk v = k at *
      clear h1 h6 h1'
      go_enter Tryd.func139, Tryd.ntmps139
      go_wp2_with fail
      rw [HE.out]
      exact bodyPost_ret (v := .agg #[.int .i64 6, .int .i64 a, .int .i64 b, .int .i64 0, .int .i64 k]) (by simp [results, Tryd.results139, go_sem]) rfl ⟨rfl, HB.out _ _⟩
    · have h6' : (fop v == 6) = false := by simpa using h6
      have HE := hide (putW_op h1 h6)
      generalize fop v = o at *
      generalize fa v = a at *
      generalize fb v = b at *
      generalize fc v = c at *
      generalize fk v = k at *
      clear h1 h6
      go_enter Tryd.func139, Tryd.ntmps139
      go_wp2_with fail
      rw [HE.out]
      exact bodyPost_ret (v := .agg #[.int .i64 o, .int .i64 a, .int .i64 b, .int .i64 c, .int .i64 0]) (by simp [results, Tryd.results139, go_sem]) rfl ⟨rfl, HB.out _ _⟩

theorem fld_cells {w : World} {B : Nat} {g cap : Nat} {l : List Nat} (h : w.ownsRow B 166 5 (.slice (some ⟨g, 0, none⟩) l.length cap) l.length (fldCs l)) (n : Nat) (v : Nat) (hn : l[n]? = some v) :
    w.cell? ⟨g, n * 5, none⟩ = some (.int .i64 (fop v)) ∧ w.cell? ⟨g, n * 5 + 1, none⟩ = some (.int .i64 (fa v)) ∧ w.cell? ⟨g, n * 5 + 1 + 1, none⟩ = some (.int .i64 (fb v)) ∧ w.cell? ⟨g, n * 5 + 1 + 1 + 1, none⟩ = some (.int .i64 (fc v)) ∧ w.cell? ⟨g, n * 5 + 1 + 1 + 1 + 1, none⟩ = some (.int .i64 (fk v)) := by
  have hlt : n < l.length := (List.getElem?_eq_some_iff.1 hn).1
  have key := flat_at (fun v : Nat => (fieldsV (v : Int)).toList) 5 (fun _ => rfl) l n v hn
  have k0 := key 0 (by decide); have k1 := key 1 (by decide); have k2 := key 2 (by decide); have k3 := key 3 (by decide); have k4 := key 4 (by decide)
  refine ⟨?_, ?_, ?_, ?_, ?_⟩
  · rw [h.cellAt _ (by omega)]; exact k0
  · rw [h.cellAt _ (by omega)]; exact k1
  · rw [h.cellAt _ (by omega)]; exact k2
  · rw [h.cellAt _ (by omega)]; exact k3
  · rw [h.cellAt _ (by omega)]; exact k4
def pwL (l : List Nat) : List PutN := l.map fun v : Nat => putW (v : Int)
theorem pwL_snoc (l : List Nat) (v : Nat) : pwL (l ++ [v]) = pwL l ++ [putW (v : Int)] := by simp [pwL]

set_option maxRecDepth 100000 in
set_option maxHeartbeats 2000000 in
theorem ofWords_any (B' : Nat) (fv : Value) (l : List Nat) (w : World) (hf : w.ownsRow B' 166 5 fv l.length (fldCs l)) (hl : l.length ≤ 8) :
    Calls Tryd.prog 102 #[fv] w fun e' w' => Below w.heap.size w w' ∧ ∃ v, e' = .returned v ∧ w'.ownsRow w.heap.size 59 5 v l.length (putCs (pwL l)) := by
  obtain ⟨inf, hinf, hz, hsz1, hby⟩ := infoPut
  have HInf := hide hinf; have HZ := hide hz; have HSz := hide hsz1; have HBy := hide hby
  clear hinf hz hsz1 hby
  obtain ⟨fa', fc', rfl⟩ := owns_len hf
  have HF := hide hf
  clear hf
  go_enter Tryd.func102, Tryd.ntmps102
  go_wp2_with fail
  go_loopw [3, 8] (fun v i wr => ∃ k : Nat, k ≤ l.length ∧ i = .int .i64 k ∧ wr.ownsRow w.heap.size 59 5 v k (putCs (pwL (l.take k))) ∧ Below w.heap.size w wr) (fun _ i _ => l.length - (intOf i).toNat)
  case atStart => exact ⟨0, Nat.zero_le _, rfl, World.ownsRow_nil _ _ _ _, Below.refl _ _⟩
  case round =>
    obtain ⟨k, hk, rfl, hown, hbl⟩ := hrel
    obtain ⟨va, vc, hv⟩ := owns_len hown
    subst hv
    have HO := hide hown; have HBl := hide hbl
    have hwz := hbl.size
    by_cases hlt : k < l.length
    · have hlt' : (k : Int) < (l.length : Int) := by omega
      obtain ⟨g, cap, hform, _, hgl⟩ := HF.out.form (by omega)
      cases hform
      have hx : l[k]? = some l[k] := List.getElem?_eq_getElem hlt
      obtain ⟨x0, x1, x2, x3, x4⟩ := fld_cells (own_grow HF.out hbl) k l[k] hx
      have HS : Hid (putCs (pwL (l.take (k + 1))) = putCs (pwL (l.take k)) ++ (putV (putW (l[k] : Nat))).toList) := by unfold Hid; rw [take_snoc' hx, pwL_snoc, putCs_snoc]
      have HOf := hide (fun w' => ofWord_any (l[k] : Nat) w')
      simp only [fieldsV] at HOf
      generalize l[k] = x at *
      generalize putW (x : Int) = p at *
      generalize fop (x : Int) = f0 at *
      generalize fa (x : Int) = f1 at *
      generalize fb (x : Int) = f2 at *
      generalize fc (x : Int) = f3 at *
      generalize fk (x : Int) = f4 at *
      obtain ⟨p0, p1, p2, p3, p4⟩ := p
      simp only [putV] at HOf HS
      clear hx hown hbl
      go_wp2_with fail
      refine (unhide HOf _).mono ?_
      rintro e w2 ⟨rfl, hb2⟩
      have HB2 := hide hb2
      have hz2 := hb2.size
      rw [size_alloc1] at hz2
      have HO2 := hide (own_grow (own_grow HO.out ((Below.refl _ _).alloc (Nat.le_refl _) _)) hb2)
      clear hb2
      go_wp2_with (at_builtin; refine wpList_append_lies _ rfl _ _ 61 rfl w.heap.size 59 inf _ 5 40 Tryd.underlying61 HInf.out HZ.out HSz.out HBy.out rfl (by decide) (.slice va k vc) k (putCs (pwL (l.take k))) rfl (HO2.out.alloc _) ⟨w2.heap.size, 0, none⟩ 1 1 [.int .i64 (p0 : Int), .int .i64 (p1 : Int), .int .i64 (p2 : Int), .int .i64 (p3 : Int), .int .i64 (p4 : Int)] rfl rfl (World.news_of_block (_root_.Go.heap_alloc_new w2 _)) (fun u hu => by simp at hu; rcases hu with rfl | rfl | rfl | rfl | rfl <;> rfl) (by decide) (by unfold maxLen; omega) (by omega) (by rw [size_alloc1]; omega) (w2.heap.size + 1) (by rw [size_alloc1]) ?_; intro g2' cap2 w3 hown2 hgr2 hat2 hlt2; have HO3 := hide hown2; have HGr := hide hgr2; clear hown2 hgr2 hat2)
      refine ⟨⟨k + 1, by omega, by go_num, ?_, ?_⟩, by simp [intOf]; omega⟩
      · rw [HS.out]
        exact HO3.out
      · exact (((HBl.out.alloc hwz _).trans (HB2.out.mono (by rw [size_alloc1]; omega))).alloc (by omega) _).grown HGr.out (by rw [size_alloc1]; omega) (fun q hq => (row_lt HO2.out q hq).1)
    · have hlt' : ¬ (k : Int) < (l.length : Int) := by omega
      have hkn : k = l.length := by omega
      subst hkn
      rw [List.take_length] at HO
      clear hown hbl
      go_wp2_with fail
      go_ret
      exact ⟨HBl.out, _, rfl, HO.out⟩
end Go.Proofs.YtmmflekajbeamaaDoor

namespace Go.Proofs.YtmmflekajbeamaaDoor
open Go.RowKit

/-- A number's digits. -/
def decF : Nat → Nat → List UInt8
  | 0, _ => []
  | f + 1, n => if n < 10 then [UInt8.ofNat (48 + n)] else decF f (n / 10) ++ [UInt8.ofNat (48 + n % 10)]
def dec (n : Nat) : List UInt8 := decF 10 n
theorem dig_toNat (n : Nat) (h : n < 10) : (UInt8.ofNat (48 + n)).toNat = 48 + n := by
  rw [UInt8.toNat_ofNat']
  omega
theorem valD_snoc' (l : List UInt8) (b : UInt8) : valD (l ++ [b]) = valD l * 10 + ((b.toNat : Int) - 48) := by simp [valD]
theorem decF_ok : ∀ (f n : Nat), n < 10 ^ f → 1 ≤ f → valD (decF f n) = n ∧ 1 ≤ (decF f n).length ∧ (decF f n).length ≤ f ∧ (∀ b ∈ decF f n, digC b = true) := by
  intro f
  induction f with
  | zero => intro n _ h; omega
  | succ f ih =>
    intro n hn _
    unfold decF
    by_cases h : n < 10
    · rw [if_pos h]
      have := dig_toNat n h
      refine ⟨?_, by simp, by simp, fun b hb => ?_⟩
      · simp only [valD, List.foldl_cons, List.foldl_nil, this]; omega
      · rw [List.mem_singleton.1 hb]
        simp only [digC, this, decide_eq_true_eq]
        omega
    · rw [if_neg h]
      have hf : 1 ≤ f := by
        rcases Nat.eq_zero_or_pos f with h0 | h0
        · subst h0; simp at hn; omega
        · exact h0
      have hd : n / 10 < 10 ^ f := by
        rw [Nat.pow_succ] at hn
        omega
      obtain ⟨h1, h2, h3, h4⟩ := ih (n / 10) hd hf
      have := dig_toNat (n % 10) (by omega)
      refine ⟨?_, by simp, by simp; omega, fun b hb => ?_⟩
      · rw [valD_snoc', h1, this]
        omega
      · rcases List.mem_append.1 hb with hb | hb
        · exact h4 b hb
        · rw [List.mem_singleton.1 hb]
          simp only [digC, this, decide_eq_true_eq]
          omega
theorem dec_ok (n : Nat) (h : n < 10000000000) : valD (dec n) = n ∧ numOK (dec n) = true := by
  obtain ⟨h1, h2, h3, h4⟩ := decF_ok 10 n (by simpa using h) (by omega)
  refine ⟨h1, ?_⟩
  unfold dec
  simp only [numOK, Bool.and_eq_true, decide_eq_true_eq, List.all_eq_true]
  exact ⟨⟨h2, h3⟩, h4⟩
theorem decF_more : ∀ (f g n : Nat), n < 10 ^ f → 1 ≤ f → f ≤ g → decF g n = decF f n := by
  intro f
  induction f with
  | zero => intro g n _ h; omega
  | succ f ih =>
    intro g n hn _ hg
    cases g with
    | zero => omega
    | succ g =>
      unfold decF
      by_cases h : n < 10
      · rw [if_pos h, if_pos h]
      · rw [if_neg h, if_neg h]
        have hf : 1 ≤ f := by
          rcases Nat.eq_zero_or_pos f with h0 | h0
          · subst h0; simp at hn; omega
          · exact h0
        rw [ih g (n / 10) (by rw [Nat.pow_succ] at hn; omega) hf (by omega)]
theorem dec_small (n : Nat) (h : n < 10) : dec n = [UInt8.ofNat (48 + n)] := by
  unfold dec decF
  rw [if_pos h]

/-- Which of n things a number speaks of. -/
def pickI (c n : Int) : Int := if c < 0 then (-(c + 1)) % n else c % n
theorem pickI_bd (c n : Int) (h : 0 < n) : 0 ≤ pickI c n ∧ pickI c n < n := by
  unfold pickI
  split
  · exact ⟨Int.emod_nonneg _ (by omega), Int.emod_lt_of_pos _ h⟩
  · exact ⟨Int.emod_nonneg _ (by omega), Int.emod_lt_of_pos _ h⟩

set_option maxRecDepth 100000 in
set_option maxHeartbeats 1000000 in
theorem pick_any (c n : Int) (w : World) (h0 : -9223372036854775808 ≤ c) (h1 : c ≤ 9223372036854775807) (hn : 0 < n) (hn1 : n ≤ 4294967296) :
    Calls Tryd.prog 15 #[.int .i64 c, .int .i64 n] w fun e' w' => e' = .returned (.int .i64 (pickI c n)) ∧ w' = w := by
  have hb := pickI_bd c n hn
  have hn0 : ¬ n = 0 := by omega
  by_cases hc : c < 0
  · have ht : (-(c + 1)).tmod n = pickI c n := by
      unfold pickI
      rw [if_pos hc, Int.tmod_eq_emod_of_nonneg (by omega)]
    generalize pickI c n = r at *
    go_enter Tryd.func15, Tryd.ntmps15
    go_wp2
    go_ret
    exact ⟨by go_num, rfl⟩
  · have ht : c.tmod n = pickI c n := by
      unfold pickI
      rw [if_neg hc, Int.tmod_eq_emod_of_nonneg (by omega)]
    generalize pickI c n = r at *
    go_enter Tryd.func15, Tryd.ntmps15
    go_wp2
    go_ret
    exact ⟨by go_num, rfl⟩
end Go.Proofs.YtmmflekajbeamaaDoor

namespace Go.Proofs.YtmmflekajbeamaaDoor
open Go.RowKit

def bya (l : List UInt8) : ByteArray := ⟨l.toArray⟩
theorem bya_size (l : List UInt8) : (bya l).size = l.length := by simp [bya, ByteArray.size]
theorem bya_app (a b : List UInt8) : bya a ++ bya b = bya (a ++ b) := by
  apply ByteArray.ext
  simp [bya]
theorem bya_list (l : List UInt8) : (bya l).data.toList = l := by simp [bya]

set_option maxRecDepth 100000 in
set_option maxHeartbeats 1000000 in
theorem digits_one (n : Nat) (w : World) (hn : n < 10) :
    Calls Tryd.prog 47 #[.int .i64 n] w fun e' w' => e' = .returned (.string (bya [UInt8.ofNat (48 + n)])) ∧ Below w.heap.size w w' := by
  have hn' : (n : Int) < 10 := by omega
  have kc : (convert 76 9 (.slice (some ⟨w.heap.size, 0, none⟩) 1 1)).run Tryd.prog (w.alloc (.cells #[.int .u8 (48 + (n : Int))] 5)) = .ok (.string (bya [UInt8.ofNat (48 + n)])) (w.alloc (.cells #[.int .u8 (48 + (n : Int))] 5)) := by
    refine run_convert_bytes_back _ _ _ 5 ⟨w.heap.size, 0, none⟩ 1 [UInt8.ofNat (48 + n)] Tryd.underlying76 Tryd.underlying5 Tryd.underlying9 (fun j hj => ?_)
    match j, hj with
    | 0, _ =>
      show (w.alloc _).cell? ⟨w.heap.size, 0, none⟩ = some (.int .u8 ((UInt8.ofNat (48 + n)).toNat : Int))
      rw [World.cell?_alloc_at (hn := rfl), dig_toNat n hn]
      simp
  have HB : Hid (Below w.heap.size w (w.alloc (.cells #[.int .u8 (48 + (n : Int))] 5))) := (Below.refl _ _).alloc (Nat.le_refl _) _
  generalize bya [UInt8.ofNat (48 + n)] = D at *
  go_enter Tryd.func47, Tryd.ntmps47
  go_wp2_with fail
  go_ret
  exact ⟨rfl, HB.out⟩

set_option maxRecDepth 100000 in
set_option maxHeartbeats 1000000 in
theorem digits_go : ∀ (f n : Nat) (w : World), n < 10 ^ f → 1 ≤ f → f ≤ 10 →
    Calls Tryd.prog 47 #[.int .i64 n] w fun e' w' => e' = .returned (.string (bya (decF f n))) ∧ Below w.heap.size w w' := by
  intro f
  induction f with
  | zero => intro n w _ h; omega
  | succ f ih =>
    intro n w hn _ hf
    by_cases h : n < 10
    · unfold decF
      rw [if_pos h]
      exact digits_one n w h
    · have h' : ¬ (n : Int) < 10 := by omega
      have hf1 : 1 ≤ f := by
        rcases Nat.eq_zero_or_pos f with h0 | h0
        · subst h0; simp at hn; omega
        · exact h0
      have hd : n / 10 < 10 ^ f := by
        rw [Nat.pow_succ] at hn
        omega
      have H1 := hide (ih (n / 10) w hd hf1 (by omega))
      have H2 := hide (fun w' => digits_one (n % 10) w' (by omega))
      have HE : Hid (bya (decF f (n / 10)) ++ bya [UInt8.ofNat (48 + n % 10)] = bya (decF (f + 1) n)) := by
        unfold Hid
        rw [decF, if_neg h, bya_app]
      have e1 : (n : Int).tdiv 10 = ((n / 10 : Nat) : Int) := by rw [Int.tdiv_eq_ediv_of_nonneg (by omega)]; omega
      have e2 : (n : Int).tmod 10 = ((n % 10 : Nat) : Int) := by rw [Int.tmod_eq_emod_of_nonneg (by omega)]; omega
      have hb : n < 10000000000 := Nat.lt_of_lt_of_le hn (by
        have : 10 ^ (f + 1) ≤ 10 ^ 10 := Nat.pow_le_pow_right (by omega) hf
        simpa using this)
      have hq : n / 10 < 10000000000 := by omega
      have hr : n % 10 < 10 := by omega
      have z1 : (bya (decF f (n / 10))).size ≤ 10 := by rw [bya_size]; have := (decF_ok f (n / 10) hd hf1).2.2.1; omega
      have z2 : (bya [UInt8.ofNat (48 + n % 10)]).size = 1 := by rw [bya_size]; rfl
      generalize bya (decF (f + 1) n) = D at *
      generalize bya (decF f (n / 10)) = D1 at *
      generalize bya [UInt8.ofNat (48 + n % 10)] = D2 at *
      generalize n / 10 = q at *
      generalize n % 10 = r at *
      clear ih hn hd hf
      go_enter Tryd.func47, Tryd.ntmps47
      go_wp2_with fail
      refine (unhide H1).mono ?_
      rintro e w1 ⟨rfl, hb1⟩
      go_wp2_with fail
      refine (unhide H2 _).mono ?_
      rintro e w2 ⟨rfl, hb2⟩
      have HB2 := hide (hb1.trans (hb2.mono hb1.size))
      clear hb1 hb2
      go_wp2_with fail
      go_ret
      rw [HE.out]
      exact ⟨rfl, HB2.out⟩
theorem digits_any (n : Nat) (w : World) (h : n < 10000000000) :
    Calls Tryd.prog 47 #[.int .i64 n] w fun e' w' => e' = .returned (.string (bya (dec n))) ∧ Below w.heap.size w w' :=
  digits_go 10 n w (by simpa using h) (by omega) (by omega)
theorem dec_len (n : Nat) (h : n < 10000000000) : 1 ≤ (dec n).length ∧ (dec n).length ≤ 10 := by
  obtain ⟨_, h2, h3, _⟩ := decF_ok 10 n (by simpa using h) (by omega)
  exact ⟨h2, h3⟩
end Go.Proofs.YtmmflekajbeamaaDoor

namespace Go.Proofs.YtmmflekajbeamaaDoor
open Go.RowKit

theorem byte_str (w : World) (q : Nat) : (convert 76 9 (.slice (some ⟨w.heap.size, 0, none⟩) 1 1)).run Tryd.prog (w.alloc (.cells #[.int .u8 ((q : Int) % 256)] 5)) = .ok (.string (bya [UInt8.ofNat (q % 256)])) (w.alloc (.cells #[.int .u8 ((q : Int) % 256)] 5)) := by
  refine run_convert_bytes_back _ _ _ 5 ⟨w.heap.size, 0, none⟩ 1 [UInt8.ofNat (q % 256)] Tryd.underlying76 Tryd.underlying5 Tryd.underlying9 (fun j hj => ?_)
  match j, hj with
  | 0, _ =>
    show (w.alloc _).cell? ⟨w.heap.size, 0, none⟩ = some (.int .u8 ((UInt8.ofNat (q % 256)).toNat : Int))
    rw [World.cell?_alloc_at (hn := rfl), UInt8.toNat_ofNat', Nat.mod_mod]
    simp
theorem numB_succ (k v : Nat) : bya [UInt8.ofNat (v / 256 ^ k % 256)] ++ bya (numB k v) = bya (numB (k + 1) v) := by rw [bya_app]; rfl

set_option maxRecDepth 100000 in
set_option maxHeartbeats 1000000 in
theorem number_ref (v n : Nat) (w : World) (hn : n ≤ 8) (hv : v < 9223372036854775808) :
    Calls Tryd.prog 94 #[.int .i64 (v : Int), .int .i64 (n : Int)] w fun e' w' => e' = .returned (.string (bya (numB n v))) ∧ Below w.heap.size w w' := by
  go_enter Tryd.func94, Tryd.ntmps94
  go_wp2_with fail
  go_loopw [0, 5, 6] (fun x s i wr => ∃ k : Nat, k ≤ n ∧ i = .int .i64 k ∧ s = .string (bya (numB k v)) ∧ x = .int .i64 ((v / 256 ^ k : Nat) : Int) ∧ Below w.heap.size w wr) (fun _ _ i _ => n - (intOf i).toNat)
  case atStart => exact ⟨0, Nat.zero_le _, rfl, rfl, by simp, Below.refl _ _⟩
  case round =>
    obtain ⟨k, hk, rfl, rfl, rfl, hbl⟩ := hrel
    have HBl := hide hbl
    have hwz := hbl.size
    by_cases hlt : k < n
    · have hlt' : (k : Int) < (n : Int) := by omega
      have hq : v / 256 ^ k < 9223372036854775808 := Nat.lt_of_le_of_lt (Nat.div_le_self _ _) hv
      have HE := hide (numB_succ k v)
      have HQ : Hid (v / 256 ^ (k + 1) = v / 256 ^ k / 256) := by unfold Hid; rw [Nat.pow_succ, Nat.div_div_eq_div_mul]
      have kc := byte_str wr (v / 256 ^ k)
      have z1 : (bya (numB k v)).size ≤ 8 := by rw [bya_size, numB_len]; omega
      have z2 : (bya [UInt8.ofNat (v / 256 ^ k % 256)]).size ≤ 8 := by rw [bya_size]; exact Nat.le_of_ble_eq_true rfl
      generalize bya (numB k v) = D1 at *
      generalize bya [UInt8.ofNat (v / 256 ^ k % 256)] = D2 at *
      generalize v / 256 ^ k = q at *
      clear hbl
      go_wp2_with fail
      refine ⟨⟨k + 1, by omega, by go_num, ?_, ?_, HBl.out.alloc hwz _⟩, by simp [intOf]; omega⟩
      · rw [HE.out]
      · rw [HQ.out]; go_num
    · have hlt' : ¬ (k : Int) < (n : Int) := by omega
      obtain rfl : k = n := by omega
      clear hbl
      go_wp2_with fail
      go_ret
      exact ⟨rfl, HBl.out⟩

set_option maxRecDepth 100000 in
set_option maxHeartbeats 1000000 in
theorem constant_ref (x : List UInt8) (w : World) (hx : 0 < x.length) (hl : x.length ≤ 100000) :
    Calls Tryd.prog 159 #[.string (bya x)] w fun e' w' => e' = .returned (.bool (isCon x)) ∧ w' = w := by
  have hz : (bya x).size = x.length := bya_size x
  have hE : ((bt (bya x) 0 : Int) == 35) = isCon x := by
    unfold isCon bt bya
    match x, hx with
    | c :: t, _ =>
      show (((c.toNat : Nat) : Int) == 35) = (c == 35)
      rw [Bool.eq_iff_iff, beq_iff_eq, beq_iff_eq, ← UInt8.toNat_inj]
      show _ ↔ c.toNat = 35
      omega
  have HE := hide hE
  have h0 : (0 : Int) < ((bya x).size : Int) := by omega
  have h0n : 0 < (bya x).size := by omega
  clear hE
  generalize bya x = D at *
  have hg := bt_get D 0 h0n
  go_enter Tryd.func159, Tryd.ntmps159
  go_wp2_with fail
  go_ret
  exact ⟨ret_bool HE.out, rfl⟩
theorem value_x (x : List UInt8) : beN (bya x) 1 4 = valX x := rfl

set_option maxRecDepth 100000 in
set_option maxHeartbeats 2000000 in
theorem joined_ref (op : Nat) (x y : List UInt8) (m : Nat) (w : World) (k2 : 2 ≤ op) (k5 : op ≤ 5) (hx : XS m x) (hy : XS m y) (hm : m ≤ 40000) :
    Calls Tryd.prog 129 #[.int .i64 (op : Int), .string (bya x), .string (bya y)] w fun e' w' => e' = .returned (.string (bya (jnS op x y))) ∧ Below w.heap.size w w' := by
  have hxl : 0 < x.length := by rcases hx.2 with ⟨v, _, rfl⟩ | ⟨_, h⟩; exact Nat.zero_lt_succ _; exact h
  have hyl : 0 < y.length := by rcases hy.2 with ⟨v, _, rfl⟩ | ⟨_, h⟩; exact Nat.zero_lt_succ _; exact h
  have hxm := hx.1; have hym := hy.1
  have HCx := hide (fun w' => constant_ref x w' hxl (by omega))
  have HCy := hide (fun w' => constant_ref y w' hyl (by omega))
  have z1 : (bya x).size ≤ 40000 := by rw [bya_size]; omega
  have z2 : (bya y).size ≤ 40000 := by rw [bya_size]; omega
  by_cases hc : isCon x = true ∧ isCon y = true
  · obtain ⟨cx, cy⟩ := hc
    obtain ⟨vx, hvx, ex⟩ : ∃ v, v < 4294967296 ∧ x = sCon v := by rcases hx.2 with h | ⟨h, _⟩; exact h; rw [cx] at h; cases h
    obtain ⟨vy, hvy, ey⟩ : ∃ v, v < 4294967296 ∧ y = sCon v := by rcases hy.2 with h | ⟨h, _⟩; exact h; rw [cy] at h; cases h
    have HV1 := hide (fun w' => value_any (bya x) 1 4 w' (by decide) (by rw [bya_size, ex, sCon_len]; decide) (by omega))
    have HV2 := hide (fun w' => value_any (bya y) 1 4 w' (by decide) (by rw [bya_size, ey, sCon_len]; decide) (by omega))
    have e1 : beN (bya x) 1 4 = vx := by rw [value_x, ex, valX_con _ hvx]
    have e2 : beN (bya y) 1 4 = vy := by rw [value_x, ey, valX_con _ hvy]
    rw [e1] at HV1
    rw [e2] at HV2
    have HW := hide (fun w' => works_any op vx vy w' (by omega) (by omega) (by omega) (by omega) (by omega) (by omega))
    have hwb := wk_bd op vx vy (by omega) (by omega) (by omega) (by omega)
    have HJ : Hid (bya (jnS op x y) = (⟨#[35]⟩ : ByteArray) ++ bya (numB 4 (wk op vx vy).toNat)) := by
      unfold Hid jnS
      rw [if_pos ⟨cx, cy⟩, ex, ey, valX_con _ hvx, valX_con _ hvy, show (⟨#[35]⟩ : ByteArray) = bya [35] from rfl, bya_app]
      rfl
    obtain ⟨c, hcc⟩ := Int.eq_ofNat_of_zero_le hwb.1
    rw [hcc] at HW HJ
    rw [Int.toNat_natCast] at HJ
    have HN := hide (fun w' => number_ref c 4 w' (by decide) (by omega))
    have z3 : (bya (numB 4 c)).size ≤ 4 := by rw [bya_size, numB_len]; decide
    rw [cx] at HCx
    rw [cy] at HCy
    generalize bya (numB 4 c) = D3 at *
    generalize bya x = D1 at *
    generalize bya y = D2 at *
    generalize bya (jnS op x y) = D at *
    clear ex ey e1 e2 hx hy hxm hym hxl hyl cx cy hwb hcc
    go_enter Tryd.func129, Tryd.ntmps129
    go_wp2_with fail
    refine (unhide HCx _).mono ?_
    rintro e w' ⟨rfl, hw⟩
    obtain rfl := hw.symm
    go_wp2_with fail
    refine (unhide HCy _).mono ?_
    rintro e w' ⟨rfl, hw⟩
    obtain rfl := hw.symm
    go_wp2_with fail
    refine (unhide HV1 _).mono ?_
    rintro e w' ⟨rfl, hw⟩
    obtain rfl := hw.symm
    go_wp2_with fail
    refine (unhide HV2 _).mono ?_
    rintro e w' ⟨rfl, hw⟩
    obtain rfl := hw.symm
    go_wp2_with fail
    refine (unhide HW _).mono ?_
    rintro e w' ⟨rfl, hw⟩
    obtain rfl := hw.symm
    go_wp2_with fail
    refine (unhide HN _).mono ?_
    rintro e w1 ⟨rfl, hb⟩
    have HB := hide hb
    clear hb
    go_wp2_with fail
    go_ret
    rw [HJ.out]
    exact ⟨rfl, HB.out⟩
  · have HJ : Hid (bya (jnS op x y) = (((⟨#[40]⟩ : ByteArray) ++ bya (numB 1 op)) ++ bya x) ++ bya y ++ (⟨#[41]⟩ : ByteArray)) := by
      unfold Hid jnS
      rw [if_neg hc, show (⟨#[40]⟩ : ByteArray) = bya [40] from rfl, show (⟨#[41]⟩ : ByteArray) = bya [41] from rfl, bya_app, bya_app, bya_app, bya_app]
      unfold sOp
      simp
    have HN := hide (fun w' => number_ref op 1 w' (by decide) (by omega))
    have z3 : (bya (numB 1 op)).size ≤ 4 := by rw [bya_size, numB_len]; decide
    have hcc : isCon x = false ∨ (isCon x = true ∧ isCon y = false) := by
      cases h1 : isCon x
      · exact .inl rfl
      · cases h2 : isCon y
        · exact .inr ⟨rfl, rfl⟩
        · exact absurd ⟨h1, h2⟩ hc
    generalize bya (numB 1 op) = D3 at *
    generalize bya x = D1 at *
    generalize bya y = D2 at *
    generalize bya (jnS op x y) = D at *
    clear hx hy hxm hym hxl hyl hc
    rcases hcc with h1 | ⟨h1, h2⟩
    · rw [h1] at HCx
      clear h1
      go_enter Tryd.func129, Tryd.ntmps129
      go_wp2_with fail
      refine (unhide HCx _).mono ?_
      rintro e w' ⟨rfl, hw⟩
      obtain rfl := hw.symm
      go_wp2_with fail
      refine (unhide HCy _).mono ?_
      rintro e w' ⟨rfl, hw⟩
      obtain rfl := hw.symm
      go_wp2_with fail
      refine (unhide HN _).mono ?_
      rintro e w1 ⟨rfl, hb⟩
      have HB := hide hb
      clear hb
      go_wp2_with fail
      go_ret
      rw [HJ.out]
      exact ⟨rfl, HB.out⟩
    · rw [h1] at HCx
      rw [h2] at HCy
      clear h1 h2
      go_enter Tryd.func129, Tryd.ntmps129
      go_wp2_with fail
      refine (unhide HCx _).mono ?_
      rintro e w' ⟨rfl, hw⟩
      obtain rfl := hw.symm
      go_wp2_with fail
      refine (unhide HCy _).mono ?_
      rintro e w' ⟨rfl, hw⟩
      obtain rfl := hw.symm
      go_wp2_with fail
      refine (unhide HN _).mono ?_
      rintro e w1 ⟨rfl, hb⟩
      have HB := hide hb
      clear hb
      go_wp2_with fail
      go_ret
      rw [HJ.out]
      exact ⟨rfl, HB.out⟩

set_option maxRecDepth 100000 in
set_option maxHeartbeats 2000000 in
theorem loaded_ref (x : List UInt8) (k m : Nat) (w : World) (hk : k ≤ 4095) (hx : XS m x) (hm : m ≤ 40000) :
    Calls Tryd.prog 128 #[.string (bya x), .int .i64 (k : Int)] w fun e' w' => e' = .returned (.string (bya (ldS x k))) ∧ Below w.heap.size w w' := by
  have hxl : 0 < x.length := by rcases hx.2 with ⟨v, _, rfl⟩ | ⟨_, h⟩; exact Nat.zero_lt_succ _; exact h
  have hxm := hx.1
  have HCx := hide (fun w' => constant_ref x w' hxl (by omega))
  have z1 : (bya x).size ≤ 40000 := by rw [bya_size]; omega
  by_cases hc : isCon x = true
  · obtain ⟨vx, hvx, ex⟩ : ∃ v, v < 4294967296 ∧ x = sCon v := by rcases hx.2 with h | ⟨h, _⟩; exact h; rw [hc] at h; cases h
    have HV1 := hide (fun w' => value_any (bya x) 1 4 w' (by decide) (by rw [bya_size, ex, sCon_len]; decide) (by omega))
    have e1 : beN (bya x) 1 4 = vx := by rw [value_x, ex, valX_con _ hvx]
    rw [e1] at HV1
    have HJ : Hid (bya (ldS x k) = (⟨#[91]⟩ : ByteArray) ++ ((⟨#[35]⟩ : ByteArray) ++ bya (numB 4 ((vx + k) % 128))) ++ bya (numB 2 0) ++ (⟨#[93]⟩ : ByteArray)) := by
      unfold Hid ldS
      rw [if_pos hc, ex, valX_con _ hvx, show (⟨#[91]⟩ : ByteArray) = bya [91] from rfl, show (⟨#[35]⟩ : ByteArray) = bya [35] from rfl, show (⟨#[93]⟩ : ByteArray) = bya [93] from rfl, bya_app, bya_app, bya_app, bya_app]
      unfold sLd sCon
      simp
    have e2 : ((vx : Int) + (k : Int)) % 128 = (((vx + k) % 128 : Nat) : Int) := by omega
    have HN1 := hide (fun w' => number_ref ((vx + k) % 128) 4 w' (by decide) (by omega))
    have HN2 : Hid (∀ w', Calls Tryd.prog 94 #[.int .i64 0, .int .i64 2] w' fun e' w'' => e' = .returned (.string (bya (numB 2 0))) ∧ Below w'.heap.size w' w'') := fun w' => number_ref 0 2 w' (by decide) (by omega)
    rw [← e2] at HN1
    have z3 : (bya (numB 4 ((vx + k) % 128))).size ≤ 4 := by rw [bya_size, numB_len]; decide
    have z4 : (bya (numB 2 0)).size ≤ 4 := by rw [bya_size, numB_len]; decide
    rw [hc] at HCx
    generalize bya (numB 4 ((vx + k) % 128)) = D3 at *
    generalize bya (numB 2 0) = D4 at *
    generalize bya x = D1 at *
    generalize bya (ldS x k) = D at *
    clear ex e1 e2 hx hxm hxl hc
    go_enter Tryd.func128, Tryd.ntmps128
    go_wp2_with fail
    refine (unhide HCx _).mono ?_
    rintro e w' ⟨rfl, hw⟩
    obtain rfl := hw.symm
    go_wp2_with fail
    refine (unhide HV1 _).mono ?_
    rintro e w' ⟨rfl, hw⟩
    obtain rfl := hw.symm
    go_wp2_with fail
    refine (unhide HN1 _).mono ?_
    rintro e w1 ⟨rfl, hb⟩
    have HB := hide hb
    have hz := hb.size
    clear hb
    go_wp2_with fail
    refine (unhide HN2 _).mono ?_
    rintro e w2 ⟨rfl, hb⟩
    have HB2 := hide (HB.out.trans (hb.mono hz))
    clear hb
    go_wp2_with fail
    go_ret
    rw [HJ.out]
    exact ⟨rfl, HB2.out⟩
  · have hcf : isCon x = false := by simpa using hc
    have HJ : Hid (bya (ldS x k) = (⟨#[91]⟩ : ByteArray) ++ bya x ++ bya (numB 2 k) ++ (⟨#[93]⟩ : ByteArray)) := by
      unfold Hid ldS
      rw [if_neg hc, show (⟨#[91]⟩ : ByteArray) = bya [91] from rfl, show (⟨#[93]⟩ : ByteArray) = bya [93] from rfl, bya_app, bya_app, bya_app]
      unfold sLd
      simp
    have HN2 := hide (fun w' => number_ref k 2 w' (by decide) (by omega))
    have z4 : (bya (numB 2 k)).size ≤ 4 := by rw [bya_size, numB_len]; decide
    rw [hcf] at HCx
    generalize bya (numB 2 k) = D4 at *
    generalize bya x = D1 at *
    generalize bya (ldS x k) = D at *
    clear hx hxm hxl hc hcf
    go_enter Tryd.func128, Tryd.ntmps128
    go_wp2_with fail
    refine (unhide HCx _).mono ?_
    rintro e w' ⟨rfl, hw⟩
    obtain rfl := hw.symm
    go_wp2_with fail
    refine (unhide HN2 _).mono ?_
    rintro e w2 ⟨rfl, hb⟩
    have HB2 := hide hb
    clear hb
    go_wp2_with fail
    go_ret
    rw [HJ.out]
    exact ⟨rfl, HB2.out⟩
end Go.Proofs.YtmmflekajbeamaaDoor
