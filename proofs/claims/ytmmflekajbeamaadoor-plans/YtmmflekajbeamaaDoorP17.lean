/-
  Plans, the document's answer: are these the words of a block (IsBlock); what slots are at first (begin).
  An instruction is read (readInstruction).
-/
import Derived.Test.YtmmflekajbeamaaDoorP16
import Derived.Test.YtmmflekajbeamaaDoorP13
namespace Go.Proofs.YtmmflekajbeamaaDoor
open Go.RowKit

def txCs (l : List (List UInt8)) : List Value := l.map fun x => .string (bya x)
theorem txCs_len (l : List (List UInt8)) : (txCs l).length = l.length := by simp [txCs]
theorem txCs_get (l : List (List UInt8)) (i : Nat) (h : i < l.length) : (txCs l)[i]? = some (.string (bya (l.getD i []))) := by
  unfold txCs
  rw [List.getElem?_map, List.getD_eq_getElem?_getD, List.getElem?_eq_getElem h]
  rfl
theorem txCs_set (l : List (List UInt8)) (i : Nat) (x : List UInt8) : (txCs l).set i (.string (bya x)) = txCs (l.set i x) := by
  unfold txCs
  rw [List.map_set]
theorem begS_len : begS.length = 16 := by simp [begS]
theorem begS_at {k : Nat} (h : k < 16) : begS[k]? = some (if k < 8 then sReg k else sCon 0) := by
  unfold begS
  rw [List.getElem?_map, List.getElem?_range h]; rfl
theorem txCs_snoc (l : List (List UInt8)) (x : List UInt8) : txCs (l ++ [x]) = txCs l ++ [.string (bya x)] := by simp [txCs]

set_option maxRecDepth 100000 in
set_option maxHeartbeats 2000000 in
theorem begin_ref (w : World) :
    Calls Tryd.prog 127 #[] w fun e' w' => Below w.heap.size w w' ∧ ∃ v, e' = .returned v ∧ w'.ownsRow w.heap.size 9 1 v 16 (txCs begS) := by
  obtain ⟨inf, hinf, hz, hsz1, hby⟩ := infoStr
  have HInf := hide hinf; have HZ := hide hz; have HSz := hide hsz1; have HBy := hide hby
  clear hinf hz hsz1 hby
  have HN0 : Hid (∀ w', Calls Tryd.prog 94 #[.int .i64 0, .int .i64 4] w' fun e' w'' => e' = .returned (.string (bya (numB 4 0))) ∧ Below w'.heap.size w' w'') := fun w' => number_ref 0 4 w' (by decide) (by decide)
  have HC0 : Hid ((⟨#[35]⟩ : ByteArray) ++ bya (numB 4 0) = bya (sCon 0)) := by unfold Hid; rw [show (⟨#[35]⟩ : ByteArray) = bya [35] from rfl, bya_app]; rfl
  have z0 : (bya (numB 4 0)).size ≤ 4 := by rw [bya_size, numB_len]; decide
  generalize bya (numB 4 0) = D0 at *
  go_enter Tryd.func127, Tryd.ntmps127
  go_wp2_with fail
  go_loopw [1, 2] (fun v i wr => ∃ k : Nat, k ≤ 16 ∧ i = .int .i64 k ∧ wr.ownsRow w.heap.size 9 1 v k (txCs (begS.take k)) ∧ Below w.heap.size w wr) (fun _ i _ => 16 - (intOf i).toNat)
  case atStart => exact ⟨0, Nat.zero_le _, rfl, World.ownsRow_nil _ _ _ _, Below.refl _ _⟩
  case round =>
    obtain ⟨k, hk, rfl, hown, hbl⟩ := hrel
    obtain ⟨va, vc, hv⟩ := owns_len hown
    subst hv
    have HO := hide hown; have HBl := hide hbl
    have hwz := hbl.size
    clear hown hbl
    by_cases hlt : k < 16
    · have hlt' : (k : Int) < 16 := by omega
      have hat := begS_at hlt
      by_cases h8 : k < 8
      · have h8' : (k : Int) < 8 := by omega
        rw [if_pos h8] at hat
        have HN := hide (fun w' => number_ref k 1 w' (by decide) (by omega))
        have HC : Hid ((⟨#[114]⟩ : ByteArray) ++ bya (numB 1 k) = bya (sReg k)) := by unfold Hid; rw [show (⟨#[114]⟩ : ByteArray) = bya [114] from rfl, bya_app]; rfl
        have HS : Hid (txCs (begS.take (k + 1)) = txCs (begS.take k) ++ [.string (bya (sReg k))]) := by unfold Hid; rw [List.take_add_one, hat, ← txCs_snoc]; rfl
        have z1 : (bya (numB 1 k)).size ≤ 4 := by rw [bya_size, numB_len]; decide
        generalize bya (numB 1 k) = D1 at *
        clear hat
        go_wp2_with fail
        refine (unhide HN0 _).mono ?_
        rintro e w1 ⟨rfl, hb1⟩
        have HB1 := hide (HBl.out.trans (hb1.mono hwz))
        have HO1 := hide (own_grow HO.out hb1)
        have hz1 := Nat.le_trans hwz hb1.size
        clear hb1
        go_wp2_with fail
        refine (unhide HN _).mono ?_
        rintro e w2 ⟨rfl, hb2⟩
        have HB2 := hide (HB1.out.trans (hb2.mono hz1))
        have HO2 := hide (own_grow HO1.out hb2)
        have hz2 := Nat.le_trans hz1 hb2.size
        clear hb2
        go_wp2_with (at_builtin; refine wpList_append_lies _ rfl _ _ 120 rfl w.heap.size 9 inf _ 1 16 Tryd.underlying120 HInf.out HZ.out HSz.out HBy.out rfl (by decide) (.slice va k vc) k (txCs (begS.take k)) rfl (HO2.out.alloc _) ⟨w2.heap.size, 0, none⟩ 1 1 [.string ((⟨#[114]⟩ : ByteArray) ++ D1)] rfl rfl (World.news_of_block (_root_.Go.heap_alloc_new w2 _)) (fun u hu => by simp at hu; subst hu; rfl) (by decide) (by unfold maxLen; omega) (by omega) (by rw [size_alloc1]; omega) (w2.heap.size + 1) (by rw [size_alloc1]) ?_; intro g2' cap2 w3 hown2 hgr2 hat2 hlt2; have HO3 := hide hown2; have HGr := hide hgr2; clear hown2 hgr2 hat2)
        refine ⟨⟨k + 1, by omega, by go_num, ?_, ?_⟩, by simp [intOf]; omega⟩
        · rw [HS.out, ← HC.out]
          exact HO3.out
        · exact (HB2.out.alloc hz2 _).grown HGr.out (by rw [size_alloc1]; omega) (fun q hq => (row_lt HO2.out q hq).1)
      · have h8' : ¬ (k : Int) < 8 := by omega
        rw [if_neg h8] at hat
        have HS : Hid (txCs (begS.take (k + 1)) = txCs (begS.take k) ++ [.string (bya (sCon 0))]) := by unfold Hid; rw [List.take_add_one, hat, ← txCs_snoc]; rfl
        clear hat
        go_wp2_with fail
        refine (unhide HN0 _).mono ?_
        rintro e w1 ⟨rfl, hb1⟩
        have HB1 := hide (HBl.out.trans (hb1.mono hwz))
        have HO1 := hide (own_grow HO.out hb1)
        have hz1 := Nat.le_trans hwz hb1.size
        clear hb1
        go_wp2_with (at_builtin; refine wpList_append_lies _ rfl _ _ 120 rfl w.heap.size 9 inf _ 1 16 Tryd.underlying120 HInf.out HZ.out HSz.out HBy.out rfl (by decide) (.slice va k vc) k (txCs (begS.take k)) rfl (HO1.out.alloc _) ⟨w1.heap.size, 0, none⟩ 1 1 [.string ((⟨#[35]⟩ : ByteArray) ++ D0)] rfl rfl (World.news_of_block (_root_.Go.heap_alloc_new w1 _)) (fun u hu => by simp at hu; subst hu; rfl) (by decide) (by unfold maxLen; omega) (by omega) (by rw [size_alloc1]; omega) (w1.heap.size + 1) (by rw [size_alloc1]) ?_; intro g2' cap2 w3 hown2 hgr2 hat2 hlt2; have HO3 := hide hown2; have HGr := hide hgr2; clear hown2 hgr2 hat2)
        refine ⟨⟨k + 1, by omega, by go_num, ?_, ?_⟩, by simp [intOf]; omega⟩
        · rw [HS.out, ← HC0.out]
          exact HO3.out
        · exact (HB1.out.alloc hz1 _).grown HGr.out (by rw [size_alloc1]; omega) (fun q hq => (row_lt HO1.out q hq).1)
    · have hkn : k = 16 := by omega
      have e16 : (k : Int) = 16 := by omega
      have HO' : Hid (wr.ownsRow w.heap.size 9 1 (.slice va k vc) 16 (txCs begS)) := by
        have := HO.out
        rw [List.take_of_length_le (by rw [begS_len]; omega)] at this
        rw [hkn] at this ⊢
        exact this
      clear HO
      have hlt' : ¬ (k : Int) < 16 := by omega
      clear hkn e16
      go_wp2_with fail
      go_ret
      exact ⟨HBl.out, _, rfl, HO'.out⟩

set_option maxRecDepth 100000 in
set_option maxHeartbeats 1000000 in
theorem isBlock_yes (s : ByteArray) (w : World) (h : blkOK s) :
    Calls Tryd.prog 88 #[.string s] w fun e' w' => e' = .returned (.bool true) ∧ w' = w := by
  obtain ⟨h4, h32, hm, hp⟩ := h
  have HP := hide hp
  have h4' : ¬ (s.size : Int) < 4 := by omega
  have h4d : decide ((s.size : Int) < 4) = false := by simpa using h4'
  have h32d : decide ((32 : Int) < (s.size : Int)) = false := by simp; omega
  have hm' : (s.size : Int) % 4 = 0 := by omega
  clear hp
  go_enter Tryd.func88, Tryd.ntmps88
  go_wp2_with fail
  go_loop [3] (fun i => ∃ k j : Nat, 4 * k + 4 ≤ s.size ∧ j = 4 * k ∧ i = .int .i64 j) (fun i => s.size - (intOf i).toNat)
  case atStart => exact ⟨0, 0, by omega, rfl, rfl⟩
  case round =>
    obtain ⟨k, j, hk, hj, rfl⟩ := hrel
    by_cases hlt : j < s.size - 4
    · have hlt' : (j : Int) < (s.size : Int) - 4 := by omega
      have hwl := wdAt_lt s k
      have hv : ∀ w', Calls Tryd.prog 86 #[.string s, .int .i64 (j : Int), .int .i64 4] w' fun e' w'' => e' = .returned (.int .i64 (wdAt s k : Nat)) ∧ w'' = w' := fun w' => by
        have := value_any s j 4 w' (by decide) (by omega) (by omega)
        unfold wdAt
        rw [← hj]
        exact this
      have HV := hide hv
      have hpl := fun w' => plain_any (wdAt s k : Nat) w' (by omega) (by omega)
      have hpk : plB (fop (wdAt s k : Nat)) (fa (wdAt s k : Nat)) (fb (wdAt s k : Nat)) (fc (wdAt s k : Nat)) = true := HP.out k (by omega)
      rw [hpk] at hpl
      have HPl := hide hpl
      clear hv hpl hpk
      generalize wdAt s k = v at *
      have HJ := hide hj
      clear hj
      go_wp2_with fail
      refine (unhide HV _).mono ?_
      rintro e w' ⟨rfl, hw⟩
      obtain rfl := hw.symm
      go_wp2_with fail
      refine (unhide HPl _).mono ?_
      rintro e w' ⟨rfl, hw⟩
      obtain rfl := hw.symm
      go_wp2_with fail
      exact ⟨⟨k + 1, j + 4, by have := HJ.out; omega, by have := HJ.out; omega, by go_num⟩, by simp [intOf]; omega⟩
    · have hlt' : ¬ (j : Int) < (s.size : Int) - 4 := by omega
      clear hj
      go_wp2_with fail
      go_ret
      exact ⟨rfl, rfl⟩

set_option maxRecDepth 100000 in
set_option maxHeartbeats 1000000 in
theorem isBlock_no (s : ByteArray) (w : World) (h : ¬ blkOK s) (hs : s.size ≤ maxLen) :
    Calls Tryd.prog 88 #[.string s] w fun e' w' => e' = .returned (.bool false) ∧ w' = w := by
  unfold maxLen at hs
  by_cases h4 : s.size < 4
  · have h4' : (s.size : Int) < 4 := by omega
    go_enter Tryd.func88, Tryd.ntmps88
    go_wp2_with fail
    go_ret
    exact ⟨rfl, rfl⟩
  · have h4d : decide ((s.size : Int) < 4) = false := by simp; omega
    by_cases h32 : 32 < s.size
    · have h32' : (32 : Int) < (s.size : Int) := by omega
      go_enter Tryd.func88, Tryd.ntmps88
      go_wp2_with fail
      go_ret
      exact ⟨rfl, rfl⟩
    · have h32d : decide ((32 : Int) < (s.size : Int)) = false := by simp; omega
      by_cases hm : s.size % 4 = 0
      · have hm' : (s.size : Int) % 4 = 0 := by omega
        have HN : Hid (¬ ∀ j, j + 1 < s.size / 4 → plW (wdAt s j) = true) := fun hp => h ⟨by omega, by omega, hm, hp⟩
        go_enter Tryd.func88, Tryd.ntmps88
        go_wp2_with fail
        clear hm'
        go_loop [3] (fun i => ∃ k j : Nat, 4 * k + 4 ≤ s.size ∧ j = 4 * k ∧ i = .int .i64 j ∧ Hid (∀ q, q < k → plW (wdAt s q) = true)) (fun i => s.size - (intOf i).toNat)
        case atStart => exact ⟨0, 0, by omega, rfl, rfl, fun q hq => by omega⟩
        case round =>
          obtain ⟨k, j, hk, hj, rfl, HG⟩ := hrel
          by_cases hlt : j < s.size - 4
          · have hlt' : (j : Int) < (s.size : Int) - 4 := by omega
            have hwl := wdAt_lt s k
            have hv : ∀ w', Calls Tryd.prog 86 #[.string s, .int .i64 (j : Int), .int .i64 4] w' fun e' w'' => e' = .returned (.int .i64 (wdAt s k : Nat)) ∧ w'' = w' := fun w' => by
              have := value_any s j 4 w' (by decide) (by omega) (by omega)
              unfold wdAt
              rw [← hj]
              exact this
            have HV := hide hv
            have hpl := fun w' => plain_any (wdAt s k : Nat) w' (by omega) (by omega)
            cases hpk : plW (wdAt s k : Nat)
            · have hpk' : plB (fop (wdAt s k : Nat)) (fa (wdAt s k : Nat)) (fb (wdAt s k : Nat)) (fc (wdAt s k : Nat)) = false := hpk
              rw [hpk'] at hpl
              have HPl := hide hpl
              clear hv hpl hpk hpk' HG HN
              generalize wdAt s k = v at *
              clear hj
              go_wp2_with fail
              refine (unhide HV _).mono ?_
              rintro e w' ⟨rfl, hw⟩
              obtain rfl := hw.symm
              go_wp2_with fail
              refine (unhide HPl _).mono ?_
              rintro e w' ⟨rfl, hw⟩
              obtain rfl := hw.symm
              go_wp2_with fail
              go_ret
              exact ⟨rfl, rfl⟩
            · have HG' : Hid (∀ q, q < k + 1 → plW (wdAt s q) = true) := fun q hq => by
                by_cases hqk : q = k
                · rw [hqk]; exact hpk
                · exact HG.out q (by omega)
              have hpk' : plB (fop (wdAt s k : Nat)) (fa (wdAt s k : Nat)) (fb (wdAt s k : Nat)) (fc (wdAt s k : Nat)) = true := hpk
              rw [hpk'] at hpl
              have HPl := hide hpl
              clear hv hpl hpk hpk' HG
              generalize wdAt s k = v at *
              have HJ := hide hj
              clear hj
              go_wp2_with fail
              refine (unhide HV _).mono ?_
              rintro e w' ⟨rfl, hw⟩
              obtain rfl := hw.symm
              go_wp2_with fail
              refine (unhide HPl _).mono ?_
              rintro e w' ⟨rfl, hw⟩
              obtain rfl := hw.symm
              go_wp2_with fail
              exact ⟨⟨k + 1, j + 4, by have := HJ.out; omega, by have := HJ.out; omega, by go_num, HG'⟩, by simp [intOf]; omega⟩
          · exact absurd (fun q hq => HG.out q (by omega)) HN.out
      · have hm' : ((s.size : Int) % 4 == 0) = false := by simp; omega
        go_enter Tryd.func88, Tryd.ntmps88
        go_wp2_with fail
        go_ret
        exact ⟨rfl, rfl⟩
end Go.Proofs.YtmmflekajbeamaaDoor

namespace Go.Proofs.YtmmflekajbeamaaDoor
open Go.RowKit Go.Maps

theorem rowIx_some {l : List UInt8} {n : Nat} (h : rowIx l = some n) : n < 12 ∧ rowNm n = l := by
  unfold rowIx at h
  have h1 := List.mem_of_find?_eq_some h
  have h2 := List.find?_some h
  exact ⟨List.mem_range.1 h1, by simpa using h2⟩
theorem rowIx_none {l : List UInt8} (h : rowIx l = none) : instB l = false := by
  unfold rowIx at h
  unfold instB
  rw [List.find?_eq_none] at h
  rw [Bool.eq_false_iff]
  intro h2
  obtain ⟨j, hj, h3⟩ := List.any_eq_true.1 h2
  exact h j hj h3
theorem ba_ext {s : ByteArray} {l : List UInt8} (h : l = s.data.toList) : s = ⟨l.toArray⟩ := by
  obtain ⟨d⟩ := s
  congr 1
  rw [h]

/-- What a call that reads a part of the text leaves. -/
def RdPost (B N b : Nat) (vw vu : Value) (w : World) (r : PS ⊕ (Int × Int × Int)) (e' : Ending) (w' : World) : Prop :=
  ∃ vw' vu', PFr B N b vw vu vw' vu' w w' ∧ ((∃ ps', r = .inl ps' ∧ ProgAt B N ps' vw' b vu' w' ∧ e' = .returned (.agg #[.int .i64 0, .int .i64 0, .int .i64 0])) ∨ ∃ l c e, r = .inr (l, c, e) ∧ e ≠ 0 ∧ e' = .returned (.agg #[.int .i64 l, .int .i64 c, .int .i64 e]))
theorem below_set3 {B : Nat} {w w2 : World} (h : Below B w w2) {n : Nat} (hn : B ≤ n) (x y z : Value) : Below B w (((w2.setCell ⟨n, 0, none⟩ x).setCell ⟨n, 1, none⟩ y).setCell ⟨n, 2, none⟩ z) :=
  ((h.setCell (p := ⟨n, 0, none⟩) hn x).setCell (p := ⟨n, 1, none⟩) hn y).setCell (p := ⟨n, 2, none⟩) hn z
theorem pfr_set3 {B N b : Nat} {vw vu vw' vu' : Value} {w w2 : World} (h : PFr B N b vw vu vw' vu' w w2) {n : Nat} (hB : B ≤ n) (hn : w.heap.size ≤ n) (x y z : Value) : PFr B N b vw vu vw' vu' w (((w2.setCell ⟨n, 0, none⟩ x).setCell ⟨n, 1, none⟩ y).setCell ⟨n, 2, none⟩ z) :=
  ((h.setOut hB hn 0 x).setOut hB hn 1 y).setOut hB hn 2 z

def W2k (hd : Tok) (w : World) : World :=
  (w.alloc (.cells #[.string hd.text, .int .i64 hd.fl, .int .i64 hd.fc, .int .i64 hd.bl, .int .i64 hd.bc] 209)).alloc (.cells #[.int .i64 0, .int .i64 0, .int .i64 0] 116)
theorem W2k_size (hd : Tok) (w : World) : (W2k hd w).heap.size = w.heap.size + 1 + 1 := by unfold W2k; rw [size_alloc1, size_alloc1]
theorem W2k_below (hd : Tok) (w : World) : Below w.heap.size w (W2k hd w) := ((Below.refl _ _).alloc (Nat.le_refl _) _).alloc (by rw [size_alloc1]; omega) _
structure InsC (hd : Tok) (w w2 : World) : Prop where
  t0 : w2.cell? ⟨w.heap.size, 0, none⟩ = some (.string hd.text)
  t1 : w2.cell? ⟨w.heap.size, 1, none⟩ = some (.int .i64 hd.fl)
  t2 : w2.cell? ⟨w.heap.size, 2, none⟩ = some (.int .i64 hd.fc)
  t3 : w2.cell? ⟨w.heap.size, 3, none⟩ = some (.int .i64 hd.bl)
  t4 : w2.cell? ⟨w.heap.size, 4, none⟩ = some (.int .i64 hd.bc)
  f0 : w2.cell? ⟨w.heap.size + 1, 0, none⟩ = some (.int .i64 0)
  f1 : w2.cell? ⟨w.heap.size + 1, 1, none⟩ = some (.int .i64 0)
  f2 : w2.cell? ⟨w.heap.size + 1, 2, none⟩ = some (.int .i64 0)
  ff : ∀ j, w2.frozen? ⟨w.heap.size + 1, j, none⟩ = false
  z1 : w.heap.size + 1 < w2.heap.size
theorem InsC.new (hd : Tok) (w : World) : InsC hd w (W2k hd w) := by
  have e : (w.alloc (.cells #[.string hd.text, .int .i64 hd.fl, .int .i64 hd.fc, .int .i64 hd.bl, .int .i64 hd.bc] 209)).heap.size = w.heap.size + 1 := size_alloc1 _ _
  refine ⟨?_, ?_, ?_, ?_, ?_, ?_, ?_, ?_, fun j => ?_, by rw [W2k_size]; omega⟩
  iterate 5
    · unfold W2k
      rw [World.cell?_alloc_past (hn := by omega), World.cell?_alloc_at (hn := rfl)]; rfl
  iterate 3
    · unfold W2k
      rw [World.cell?_alloc_at (hn := e.symm)]; rfl
  · unfold W2k
    rw [World.frozen?_alloc_at (hn := e.symm)]
theorem InsC.below {hd : Tok} {w w2 w3 : World} (h : InsC hd w w2) {M : Nat} (hM : w.heap.size + 1 < M) (hb : Below M w2 w3) : InsC hd w w3 := by
  have k0 : ∀ j, w3.cell? ⟨w.heap.size, j, none⟩ = w2.cell? ⟨w.heap.size, j, none⟩ := fun j => below_cell' hb _ _ (by omega)
  have k1 : ∀ j, w3.cell? ⟨w.heap.size + 1, j, none⟩ = w2.cell? ⟨w.heap.size + 1, j, none⟩ := fun j => below_cell' hb _ _ hM
  exact ⟨(k0 0).trans h.t0, (k0 1).trans h.t1, (k0 2).trans h.t2, (k0 3).trans h.t3, (k0 4).trans h.t4, (k1 0).trans h.f0, (k1 1).trans h.f1, (k1 2).trans h.f2, fun j => (hb.frozen (p := ⟨w.heap.size + 1, j, none⟩) hM).trans (h.ff j), block_lt_of_cell ((k1 0).trans h.f0)⟩

set_option maxRecDepth 100000 in
set_option maxHeartbeats 2000000 in
theorem readIns_any (B N : Nat) (ps : PS) (vw : Value) (b : Nat) (vu : Value) (hd : Tok) (v : Value) (parts : List Tok) (w : World) (h : ProgAt B N ps vw b vu w) (ht : Tab w) (hsl : SlAt w v parts) (hlow : ∀ a m c, v = .slice (some a) m c → a.block < B)
    (hpl : parts.length ≤ 5000) (hts : ∀ t ∈ parts, t.text.size ≤ maxLen) (hwl : ps.words.length ≤ 128) (hul : ps.uses.length + 3 ≤ 5000) :
    Calls Tryd.prog 158 #[.pointer (some ⟨N, 0, none⟩), .agg (tokC hd).toArray, v] w (RdPost B N b vw vu w (rdIns ps hd parts)) := by
  obtain ⟨wa, wc, rfl⟩ := owns_len h.wd
  have hBw : B ≤ w.heap.size := Nat.le_trans h.bN (Nat.le_of_lt h.nlt)
  have HP := hide h
  have HSl := hide hsl
  have HLow := hide hlow
  have HTs := hide hts
  clear h hsl hlow hts
  have hvs : ∃ a cap, v = .slice a parts.length cap := by obtain ⟨a, cap, e, _⟩ := HSl.out; exact ⟨a, cap, e⟩
  obtain ⟨a, cap, rfl⟩ := hvs
  simp only [tokC]
  cases hix : rowIx hd.text.data.toList with
  | none =>
    have HR : Hid (rdIns ps hd parts = .inr (hd.fl, hd.fc, 4)) := by unfold Hid rdIns; rw [hix]
    have HN := hide (fun w2 (h2 : Tab w2) => byName_no hd.text w2 (rowIx_none hix) h2)
    clear hix
    go_enter Tryd.func158, Tryd.ntmps158
    go_wp2_with fail
    refine (unhide HN _ (ht.below ht.pos (W2k_below hd w))).mono ?_
    rintro e w2 ⟨rfl, hb2⟩
    have HB2 : Hid (Below w.heap.size w w2) := (W2k_below hd w).trans (hb2.mono (W2k_below hd w).size)
    obtain ⟨t0, t1, t2, t3, t4, f0, f1, f2, ff, z1⟩ := (InsC.new hd w).below (by show w.heap.size + 1 < (W2k hd w).heap.size; rw [W2k_size]; omega) hb2
    clear hb2
    have z0 : w.heap.size < w2.heap.size := by omega
    simp only [zeroRow]
    go_wp2_with fail
    refine bodyPost_ret (v := .agg #[.int .i64 hd.fl, .int .i64 hd.fc, .int .i64 4]) (by simp [results, Tryd.results158, go_sem, f0, f1, f2, z1]) rfl ?_
    unfold RdPost
    refine ⟨_, _, PFr.of_below hBw ?_, .inr ⟨_, _, _, HR.out, by decide, rfl⟩⟩
    have y := below_set3 HB2.out (Nat.le_succ w.heap.size) (.int .i64 hd.fl) (.int .i64 hd.fc) (.int .i64 4)
    exact y.alloc y.size _
  | some n =>
    obtain ⟨hn, hnm⟩ := rowIx_some hix
    have htx : hd.text = ⟨(rowNm n).toArray⟩ := ba_ext hnm
    have HR : Hid (rdIns ps hd parts = match chkGo (rowPt n) 0 hd parts with | some (l, c) => .inr (l, c, 4) | none => if ps.words.length = 128 then .inr (hd.fl, hd.fc, 5) else .inl (layS n parts ps)) := by
      unfold Hid rdIns
      simp only [hix]
      cases chkGo (rowPt n) 0 hd parts with
      | none => rfl
      | some p => rfl
    have HN := hide (fun w2 (h2 : Tab w2) => byName_yes n w2 hn h2)
    rw [← htx] at HN
    have HTx := hide htx
    clear hix hnm htx
    go_enter Tryd.func158, Tryd.ntmps158
    go_wp2_with fail
    refine (unhide HN _ (ht.below ht.pos (W2k_below hd w))).mono ?_
    rintro e w2 ⟨rfl, hb2⟩
    have HB2 : Hid (Below w.heap.size w w2) := (W2k_below hd w).trans (hb2.mono (W2k_below hd w).size)
    have HC2 := hide ((InsC.new hd w).below (by show w.heap.size + 1 < (W2k hd w).heap.size; rw [W2k_size]; omega) hb2)
    obtain ⟨t0, t1, t2, t3, t4, f0, f1, f2, ff, z1⟩ := HC2.out
    clear hb2
    have z0 : w.heap.size < w2.heap.size := by omega
    have HW3 : Hid (Below w2.heap.size w2 (w2.alloc (.cells #[.string ⟨(rowNm n).toArray⟩, .int .i64 (rowOp n), .string ⟨(rowPt n).toArray⟩] 198))) := (Below.refl _ _).alloc (Nat.le_refl _) _
    have HCk := hide (checkParts_any n hd _ parts (w2.alloc (.cells #[.string ⟨(rowNm n).toArray⟩, .int .i64 (rowOp n), .string ⟨(rowPt n).toArray⟩] 198)) (HSl.out.below (HB2.out.trans (HW3.out.mono HB2.out.size))) (ht.below ht.pos (HB2.out.trans (HW3.out.mono HB2.out.size))) hpl HTs.out)
    simp only [rowV, tokC] at HCk ⊢
    go_wp2_with fail
    refine (unhide HCk).mono ?_
    rintro e w3 ⟨hb3, hres⟩
    have HB3 : Hid (Below w2.heap.size w2 w3) := HW3.out.trans (hb3.mono HW3.out.size)
    have HC3 := hide (HC2.out.below z1 HB3.out)
    have HBw : Hid (Below w.heap.size w w3) := HB2.out.trans (HB3.out.mono HB2.out.size)
    have r0 : w3.cell? ⟨w2.heap.size, 0, none⟩ = some (.string ⟨(rowNm n).toArray⟩) := by rw [below_cell' hb3 _ _ (by rw [size_alloc1]; omega), World.cell?_alloc_at (hn := rfl)]; rfl
    have r1 : w3.cell? ⟨w2.heap.size, 1, none⟩ = some (.int .i64 (rowOp n)) := by rw [below_cell' hb3 _ _ (by rw [size_alloc1]; omega), World.cell?_alloc_at (hn := rfl)]; rfl
    have r2 : w3.cell? ⟨w2.heap.size, 2, none⟩ = some (.string ⟨(rowPt n).toArray⟩) := by rw [below_cell' hb3 _ _ (by rw [size_alloc1]; omega), World.cell?_alloc_at (hn := rfl)]; rfl
    have zr : w2.heap.size < w3.heap.size := block_lt_of_cell r0
    clear hb3 t0 t1 t2 t3 t4 f0 f1 f2 ff z1 HCk HW3 HN
    obtain ⟨t0, t1, t2, t3, t4, f0, f1, f2, ff, z1⟩ := HC3.out
    have z0' : w.heap.size < w3.heap.size := by omega
    rcases hres with ⟨hck, rfl⟩ | ⟨l, c, hck, rfl⟩
    · rw [hck] at HR
      have hP3 := HP.out.above HBw.out
      have c0 := hP3.c0
      have hN3 := hP3.nlt
      have hNw := HP.out.nlt
      obtain ⟨k1, k2⟩ := chk_none (rowPt n) parts 0 hd (Nat.zero_le _) hck
      simp only [Nat.zero_add] at k1 k2
      have HK1 := hide k1
      have HK2 := hide k2
      clear k1 k2 hck
      by_cases hm : ps.words.length = 128
      · rw [if_pos hm] at HR
        have hm' : (ps.words.length : Int) = 128 := by omega
        clear hP3
        go_wp2_with fail
        refine bodyPost_ret (v := .agg #[.int .i64 hd.fl, .int .i64 hd.fc, .int .i64 5]) (by simp [results, Tryd.results158, go_sem, f0, f1, f2, z1]) rfl ?_
        unfold RdPost
        refine ⟨_, _, PFr.of_below hBw ?_, .inr ⟨_, _, _, HR.out, by decide, rfl⟩⟩
        have y := below_set3 HBw.out (Nat.le_succ w.heap.size) (.int .i64 hd.fl) (.int .i64 hd.fc) (.int .i64 5)
        exact y.alloc y.size _
      · rw [if_neg hm] at HR
        have hm' : ¬ (ps.words.length : Int) = 128 := by omega
        have HL := hide (fun o => lay_any B N n ps _ b vu _ parts (w3.alloc o) (hP3.alloc o) hn (HSl.out.below (HBw.out.trans ((Below.refl _ _).alloc HBw.out.size o))) HLow.out HK1.out HK2.out HTs.out hwl hul)
        simp only [rowV] at HL
        have HP3 := hide hP3
        clear hP3
        go_wp2_with fail
        refine (unhide HL _).mono ?_
        rintro e w4 ⟨rfl, vw', vu', h4, hf4⟩
        have hni : ¬ InP N (.slice wa ps.words.length wc) b vu (w.heap.size + 1) := fun hi => by have := (HP.out.inlt hi).2; omega
        have hblk : w4.heap[w.heap.size + 1]? = w3.heap[w.heap.size + 1]? := (hf4.out _ (by rw [size_alloc1]; omega) hni).trans (Below.heap_alloc w3 _ _ z1)
        have y0 : w4.cell? ⟨w.heap.size + 1, 0, none⟩ = some (.int .i64 0) := (World.cell?_of_block hblk).trans f0
        have y1 : w4.cell? ⟨w.heap.size + 1, 1, none⟩ = some (.int .i64 0) := (World.cell?_of_block hblk).trans f1
        have y2 : w4.cell? ⟨w.heap.size + 1, 2, none⟩ = some (.int .i64 0) := (World.cell?_of_block hblk).trans f2
        have yf : ∀ j, w4.frozen? ⟨w.heap.size + 1, j, none⟩ = false := fun j => (World.frozen?_of_block hblk).trans (ff j)
        have H4 := hide h4; have HF4 := hide hf4
        clear h4 hf4 t0 t1 t2 t3 t4 f0 f1 f2 ff HL hblk r0 r1 r2
        go_wp2_with fail
        refine bodyPost_ret (v := .agg #[.int .i64 0, .int .i64 0, .int .i64 0]) (by simp [results, Tryd.results158, go_sem, y0, y1, y2]) rfl ?_
        unfold RdPost
        have hnew : ¬ InP N vw' b vu' (w.heap.size + 1) := fun hi => by
          rcases HF4.out.new _ hi with h5 | h5
          · exact hni h5
          · rw [size_alloc1] at h5; omega
        have z0 := (PFr.of_below (N := N) (b := b) (vw := .slice wa ps.words.length wc) (vu := vu) hBw (HBw.out.alloc HBw.out.size _)).trans HF4.out
        refine ⟨vw', vu', pfr_set3 z0 (Nat.le_trans hBw (Nat.le_succ _)) (Nat.le_succ _) _ _ _, .inl ⟨_, HR.out, ?_, rfl⟩⟩
        exact ((H4.out.setOut hnew 0 _).setOut hnew 1 _).setOut hnew 2 _
    · rw [hck] at HR
      clear hck
      go_wp2_with fail
      refine bodyPost_ret (v := .agg #[.int .i64 l, .int .i64 c, .int .i64 4]) (by simp [results, Tryd.results158, go_sem, f0, f1, f2, z1]) rfl ?_
      unfold RdPost
      refine ⟨_, _, PFr.of_below hBw ?_, .inr ⟨_, _, _, HR.out, by decide, rfl⟩⟩
      have y := below_set3 HBw.out (Nat.le_succ w.heap.size) (.int .i64 l) (.int .i64 c) (.int .i64 4)
      exact y.alloc y.size _
end Go.Proofs.YtmmflekajbeamaaDoor
