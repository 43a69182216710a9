/-
  Plans, the document's answer: what registers come to by puts and by words (byPuts, byWords).
  Plans, the document's answer: Accept.
-/
import Derived.Test.YtmmflekajbeamaaDoorS24
import Derived.Test.YtmmflekajbeamaaDoorS15
import Derived.Test.YtmmflekajbeamaaDoorS19
namespace Go.Proofs.YtmmflekajbeamaaDoor
open Go.RowKit

theorem vS_set {l : List (List UInt8)} {p : PutN} (h : p.kind = 1) : vS l p = sCon p.k := by unfold vS; rw [if_pos h]
theorem vS_load {l : List (List UInt8)} {p : PutN} (h : p.kind = 6) : vS l p = ldS (l.getD p.a []) p.k := by unfold vS; rw [if_neg (by omega), if_pos h]
theorem vS_move {l : List (List UInt8)} {p : PutN} (h : p.kind = 7) : vS l p = l.getD p.a [] := by unfold vS; rw [if_neg (by omega), if_neg (by omega), if_pos h]
theorem vS_op {l : List (List UInt8)} {p : PutN} (h2 : 2 ≤ p.kind) (h5 : p.kind ≤ 5) : vS l p = jnS p.kind (l.getD p.a []) (l.getD p.b []) := by unfold vS; rw [if_neg (by omega), if_neg (by omega), if_neg (by omega)]
/-- The row of the slots' texts in a world that has grown. -/
theorem row_txt {w : World} {B : Nat} {g cap : Nat} {l : List (List UInt8)} (h : w.ownsRow B 9 1 (.slice (some ⟨g, 0, none⟩) 16 cap) 16 (txCs l)) (hl : l.length = 16) {w2 : World} (hb : Below w.heap.size w w2) :
    (∀ i, i < 16 → w2.cell? ⟨g, i, none⟩ = some (.string (bya (l.getD i [])))) ∧ (∀ i, w2.frozen? ⟨g, i, none⟩ = false) ∧ ∀ d x, (w2.setCell ⟨g, d, none⟩ (.string (bya x))).ownsRow B 9 1 (.slice (some ⟨g, 0, none⟩) 16 cap) 16 (txCs (l.set d x)) := by
  have h2 := own_grow h hb
  refine ⟨fun i hi => ?_, fun i => h2.frozenAt i, fun d x => ?_⟩
  · rw [h2.cellAt i (by omega), txCs_get l i (by omega)]
  · have := (h2.stored d (.string (bya x))).1
    rw [txCs_set] at this
    exact this

set_option maxRecDepth 100000 in
set_option maxHeartbeats 4000000 in
theorem byPuts_ref (B' : Nat) (pv : Value) (ps : List PutN) (w : World) (hps : w.ownsRow B' 59 5 pv ps.length (putCs ps)) (hp : ∀ p ∈ ps, okPut p ∧ p.k < 4294967296) (hpl : ps.length ≤ 10) :
    Calls Tryd.prog 90 #[pv] w fun e' w' => Below w.heap.size w w' ∧ ∃ v, e' = .returned v ∧ w'.ownsRow w.heap.size 9 1 v 16 (txCs (comeS ps)) := by
  obtain ⟨pa, pc, rfl⟩ := owns_len hps
  have HPs := hide hps; have HOk := hide hp
  have HXS := hide (fun k (hk : k ≤ ps.length) => XSL.fold hp k hk)
  have HBg := hide (begin_ref w)
  clear hps hp
  go_enter Tryd.func90, Tryd.ntmps90
  go_wp2_with fail
  refine (unhide HBg).mono ?_
  rintro e w0 ⟨hb0, v0, rfl, ho0⟩
  obtain ⟨g, cap, rfl, hgw, hgl⟩ := ho0.form (by decide)
  have HB0 := hide hb0; have HO0 := hide ho0
  clear hb0 ho0 HBg
  go_wp2_with fail
  go_loopw [4] (fun i wr => ∃ k : Nat, k ≤ ps.length ∧ i = .int .i64 k ∧ wr.ownsRow w.heap.size 9 1 (.slice (some ⟨g, 0, none⟩) 16 cap) 16 (txCs ((ps.take k).foldl stS begS)) ∧ Below w.heap.size w wr) (fun i _ => ps.length - (intOf i).toNat)
  case atStart => exact ⟨0, Nat.zero_le _, rfl, HO0.out, HB0.out⟩
  case round =>
    obtain ⟨k, hk, rfl, hown, hbl⟩ := hrel
    have HBl := hide hbl
    have hwz := hbl.size
    have hgr : g < wr.heap.size := (row_lt hown g rfl).2
    by_cases hlt : k < ps.length
    · have hlt' : (k : Int) < (ps.length : Int) := by omega
      have hpk : ps[k]? = some ps[k] := List.getElem?_eq_getElem hlt
      have HStp : Hid ((ps.take (k + 1)).foldl stS begS = ((ps.take k).foldl stS begS).set ps[k].d (vS ((ps.take k).foldl stS begS) ps[k])) := foldl_take_succ _ _ _ _ _ hpk
      obtain ⟨hok, hkk⟩ := HOk.out _ (List.getElem_mem hlt)
      have hxl := HXS.out k hk
      have hbd := bdX_10 (n := k) (by omega)
      obtain ⟨pg, pcap, hform, _, hpgl⟩ := HPs.out.form (by omega)
      cases hform
      obtain ⟨x0, x1, x2, x3, x4⟩ := put_cells (own_grow HPs.out hbl) k ps[k] hpk
      have hrt := hide (fun w2 hb => row_txt hown hxl.1 (w2 := w2) hb)
      have HFin : Hid (∀ w2, Below wr.heap.size wr w2 → (w2.setCell ⟨g, ps[k].d, none⟩ (.string (bya (vS ((ps.take k).foldl stS begS) ps[k])))).ownsRow w.heap.size 9 1 (.slice (some ⟨g, 0, none⟩) 16 cap) 16 (txCs ((ps.take (k + 1)).foldl stS begS)) ∧ Below w.heap.size w (w2.setCell ⟨g, ps[k].d, none⟩ (.string (bya (vS ((ps.take k).foldl stS begS) ps[k]))))) := fun w2 hb => by
        rw [HStp.out]
        exact ⟨(hrt.out w2 hb).2.2 _ _, (HBl.out.trans (hb.mono hwz)).setCell hgw _⟩
      have hd16 := hok.1
      have ha16 := hok.2.1
      have hb16 := hok.2.2.1
      have hxa := hxl.at ha16
      have hxb := hxl.at hb16
      generalize (ps.take k).foldl stS begS = L at *
      generalize ps[k] = p at *
      clear hpk hown hbl HStp hxl
      obtain ⟨pk, pd, pa, pb, pk'⟩ := p
      obtain ⟨-, -, -, hc⟩ := hok
      simp only at x0 x1 x2 x3 x4 hd16 ha16 hb16 hxa hxb hc hkk HFin
      have hd16' : (pd : Int) < 16 := by omega
      have ha16' : (pa : Int) < 16 := by omega
      have hb16' : (pb : Int) < 16 := by omega
      have hb1 : ∀ o, Below wr.heap.size wr (wr.alloc o) := fun o => (Below.refl _ _).alloc (Nat.le_refl _) _
      have HB1 := hide hb1
      have ca := ((hrt.out wr (Below.refl _ _)).1 pa ha16)
      have cb := ((hrt.out wr (Below.refl _ _)).1 pb hb16)
      clear hb1
      have hbox : ∀ (w2 : World), Below (wr.heap.size + 1) (wr.alloc (.cells #[.int .i64 (pk : Int), .int .i64 (pd : Int), .int .i64 (pa : Int), .int .i64 (pb : Int), .int .i64 (pk' : Int)] 59)) w2 → w2.cell? ⟨wr.heap.size, 1, none⟩ = some (.int .i64 (pd : Int)) := fun w2 hb => by
        rw [below_cell' hb _ _ (by omega), World.cell?_alloc_at (hn := rfl)]; rfl
      have HBox := hide hbox
      clear hbox
      rcases hc with ⟨rfl, rfl, rfl⟩ | ⟨k2, k5, rfl⟩ | ⟨rfl, rfl, hk6⟩ | ⟨rfl, rfl, rfl⟩
      · rw [vS_set rfl] at HFin
        have HN := hide (fun w' => number_ref pk' 4 w' (by decide) (by omega))
        have HC : Hid ((⟨#[35]⟩ : ByteArray) ++ bya (numB 4 pk') = bya (sCon pk')) := by unfold Hid; rw [show (⟨#[35]⟩ : ByteArray) = bya [35] from rfl, bya_app]; rfl
        rw [← HC.out] at HFin
        have z1 : (bya (numB 4 pk')).size ≤ 4 := by rw [bya_size, numB_len]; decide
        generalize bya (numB 4 pk') = D1 at *
        have x0' : wr.cell? ⟨pg, k * 5, none⟩ = some (.int .i64 1) := x0
        clear x0 ca cb
        go_wp2_with fail
        refine (unhide HN _).mono ?_
        rintro e w2 ⟨rfl, hb2⟩
        have hb2' : Below wr.heap.size wr w2 := (HB1.out _).trans (hb2.mono (by rw [size_alloc1]; omega))
        have y1 := HBox.out w2 (by rw [size_alloc1] at hb2; exact hb2)
        obtain ⟨r1, r2, r3⟩ := hrt.out w2 hb2'
        have cd := r1 pd hd16
        have fd := r2 pd
        have HE := hide (HFin.out w2 hb2')
        clear hb2 hb2' r1 r2 r3
        go_wp2_with fail
        exact ⟨⟨k + 1, by omega, by go_num, HE.out.1, HE.out.2⟩, by simp [intOf]; omega⟩
      · rw [vS_op k2 k5] at HFin
        have HJ := hide (fun w' => joined_ref pk _ _ (bdX k) w' k2 k5 hxa hxb (by omega))
        have q1 : ((pk : Int) == 1) = false := by simp; omega
        have q6 : ((pk : Int) == 6) = false := by simp; omega
        have q7 : ((pk : Int) == 7) = false := by simp; omega
        simp only at HJ HFin
        generalize bya (L.getD pa []) = D1 at *
        generalize bya (L.getD pb []) = D2 at *
        generalize bya (jnS pk (L.getD pa []) (L.getD pb [])) = D3 at *
        clear hxa hxb k2 k5
        go_wp2_with fail
        refine still_tail 12 (by kernel_rfl) (by kernel_rfl) ?_
        simp only [List.take_succ_cons, List.take_zero, List.drop_succ_cons, List.drop_zero]
        repeat still_step
        refine wpStill_nil ?_
        go_wp2_with fail
        refine (unhide HJ _).mono ?_
        rintro e w2 ⟨rfl, hb2⟩
        have hb2' : Below wr.heap.size wr w2 := (HB1.out _).drew.trans (hb2.mono (by show wr.heap.size ≤ (wr.alloc _).heap.size; rw [size_alloc1]; omega))
        have y1 := HBox.out w2 (((Below.refl _ _).drew).trans (hb2.mono (by show wr.heap.size + 1 ≤ (wr.alloc _).heap.size; rw [size_alloc1]; omega)))
        obtain ⟨r1, r2, r3⟩ := hrt.out w2 hb2'
        have cd := r1 pd hd16
        have fd := r2 pd
        have HE := hide (HFin.out w2 hb2')
        clear hb2 hb2' r1 r2 r3
        go_wp2_with fail
        exact ⟨⟨k + 1, by omega, by go_num, HE.out.1, HE.out.2⟩, by simp [intOf]; omega⟩
      · rw [vS_load rfl] at HFin
        have HJ := hide (fun w' => loaded_ref _ pk' (bdX k) w' hk6 hxa (by omega))
        simp only at HJ HFin
        generalize bya (L.getD pa []) = D1 at *
        generalize bya (ldS (L.getD pa []) pk') = D3 at *
        have x0' : wr.cell? ⟨pg, k * 5, none⟩ = some (.int .i64 6) := x0
        clear hxa hxb x0 cb
        go_wp2_with fail
        refine still_tail 7 (by kernel_rfl) (by kernel_rfl) ?_
        simp only [List.take_succ_cons, List.take_zero, List.drop_succ_cons, List.drop_zero]
        repeat still_step
        refine wpStill_nil ?_
        go_wp2_with fail
        refine (unhide HJ _).mono ?_
        rintro e w2 ⟨rfl, hb2⟩
        have hb2' : Below wr.heap.size wr w2 := (HB1.out _).drew.trans (hb2.mono (by show wr.heap.size ≤ (wr.alloc _).heap.size; rw [size_alloc1]; omega))
        have y1 := HBox.out w2 (((Below.refl _ _).drew).trans (hb2.mono (by show wr.heap.size + 1 ≤ (wr.alloc _).heap.size; rw [size_alloc1]; omega)))
        obtain ⟨r1, r2, r3⟩ := hrt.out w2 hb2'
        have cd := r1 pd hd16
        have fd := r2 pd
        have HE := hide (HFin.out w2 hb2')
        clear hb2 hb2' r1 r2 r3
        go_wp2_with fail
        exact ⟨⟨k + 1, by omega, by go_num, HE.out.1, HE.out.2⟩, by simp [intOf]; omega⟩
      · rw [vS_move rfl] at HFin
        simp only at HFin
        have cd := (hrt.out wr (Below.refl _ _)).1 pd hd16
        have fd := (hrt.out wr (Below.refl _ _)).2.1 pd
        have hgr' : g ≠ wr.heap.size := by omega
        generalize bya (L.getD pa []) = D1 at *
        have x0' : wr.cell? ⟨pg, k * 5, none⟩ = some (.int .i64 7) := x0
        clear hxa hxb x0 cb
        have HE := hide (HFin.out wr (Below.refl _ _))
        go_wp2_with fail
        exact ⟨⟨k + 1, by omega, by go_num, HE.out.1.alloc _, HE.out.2.alloc (by simp; omega) _⟩, by simp [intOf]; omega⟩
    · have hlt' : ¬ (k : Int) < (ps.length : Int) := by omega
      obtain rfl : k = ps.length := by omega
      rw [List.take_length] at hown
      have HO := hide hown
      clear hown hbl
      go_wp2_with fail
      go_ret
      exact ⟨HBl.out, _, rfl, HO.out⟩

/-- The puts of plain words, by the fields that the document reads. -/
theorem vS_word_set {l : List (List UInt8)} {v : Int} (h : fop v = 1) : vS l (putW v) = sCon (fk v).toNat := by unfold putW; rw [if_pos h]; rfl
theorem vS_word_load {l : List (List UInt8)} {v : Int} (h : fop v = 6) : vS l (putW v) = ldS (l.getD (fb v).toNat []) (fk v).toNat := by unfold putW; rw [if_neg (by omega), if_pos h]; rfl
theorem vS_word_op {l : List (List UInt8)} {v : Int} (h2 : 2 ≤ fop v) (h5 : fop v ≤ 5) : vS l (putW v) = jnS (fop v).toNat (l.getD (fb v).toNat []) (l.getD (fc v).toNat []) := by
  unfold putW
  rw [if_neg (by omega), if_neg (by omega)]
  exact vS_op (by dsimp only; omega) (by dsimp only; omega)
theorem putW_d (v : Int) : (putW v).d = (fa v).toNat := by unfold putW; split; rfl; split <;> rfl

set_option maxRecDepth 100000 in
set_option maxHeartbeats 4000000 in
theorem byWords_ref (s : ByteArray) (w : World) (h : blkOK s) :
    Calls Tryd.prog 89 #[.string s] w fun e' w' => Below w.heap.size w w' ∧ ∃ v, e' = .returned v ∧ w'.ownsRow w.heap.size 9 1 v 16 (txCs (comeS (blkPuts s))) := by
  have hs4 := h.1; have hs32 := h.2.1; have hm4 := h.2.2.1
  have HBk := hide h
  have hnp := nPl_le s
  have hnp2 : s.size / 4 - 1 ≤ nPl s := by unfold nPl; split <;> omega
  have hbl : (blkPuts s).length = nPl s := by simp [blkPuts]
  have HXS := hide (fun k (hk : k ≤ (blkPuts s).length) => XSL.fold (blkPuts_ok h) k hk)
  have HBg := hide (begin_ref w)
  have hbp : ∀ k, k < nPl s → (blkPuts s)[k]? = some (putW (wdAt s k : Nat)) := fun k hk => by
    unfold blkPuts
    rw [List.getElem?_map, List.getElem?_range hk]; rfl
  have HBp := hide hbp
  clear hbp h
  go_enter Tryd.func89, Tryd.ntmps89
  go_wp2_with fail
  refine (unhide HBg).mono ?_
  rintro e w0 ⟨hb0, v0, rfl, ho0⟩
  obtain ⟨g, cap, rfl, hgw, hgl⟩ := ho0.form (by decide)
  have HB0 := hide hb0; have HO0 := hide ho0
  clear hb0 ho0 HBg
  go_wp2_with fail
  go_loopw [4] (fun i wr => ∃ k j : Nat, k ≤ s.size / 4 ∧ j = 4 * k ∧ i = .int .i64 j ∧ wr.ownsRow w.heap.size 9 1 (.slice (some ⟨g, 0, none⟩) 16 cap) 16 (txCs (((blkPuts s).take k).foldl stS begS)) ∧ Below w.heap.size w wr) (fun i _ => s.size - (intOf i).toNat)
  case atStart => exact ⟨0, 0, Nat.zero_le _, rfl, rfl, HO0.out, HB0.out⟩
  case round =>
    obtain ⟨k, j, hk, hj, rfl, hown, hbl'⟩ := hrel
    have HBl := hide hbl'
    have HJ := hide hj
    have hwz := hbl'.size
    by_cases hlt : k < s.size / 4
    · have hlt' : (j : Int) < (s.size : Int) := by omega
      have hj4 : j + 4 ≤ s.size := by omega
      have hwl := wdAt_lt s k
      have hv : ∀ w', Calls Tryd.prog 86 #[.string s, .int .i64 (j : Int), .int .i64 4] w' fun e' w'' => e' = .returned (.int .i64 (wdAt s k : Nat)) ∧ w'' = w' := fun w' => by
        have := value_any s j 4 w' (by decide) (by omega) (by omega)
        unfold wdAt
        rw [← hj]
        exact this
      have HV := hide hv
      have hpl := fun w' => plain_any (wdAt s k : Nat) w' (by omega) (by omega)
      by_cases hkp : k < nPl s
      · have hpk : plW (wdAt s k : Nat) = true := blk_plain HBk.out hkp
        have hpk' : plB (fop (wdAt s k : Nat)) (fa (wdAt s k : Nat)) (fb (wdAt s k : Nat)) (fc (wdAt s k : Nat)) = true := hpk
        rw [hpk'] at hpl
        have HPl := hide hpl
        obtain ⟨hal, hcs⟩ := plB_cases hpk
        have HStp : Hid (((blkPuts s).take (k + 1)).foldl stS begS = (((blkPuts s).take k).foldl stS begS).set (fa (wdAt s k : Nat)).toNat (vS (((blkPuts s).take k).foldl stS begS) (putW (wdAt s k : Nat)))) := by
          unfold Hid
          rw [foldl_take_succ _ _ _ _ _ (HBp.out k hkp), ← putW_d]
          rfl
        have hxl := HXS.out k (by omega)
        have hbd := bdX_10 (n := k) (by omega)
        have hrt := hide (fun w2 hb => row_txt hown hxl.1 (w2 := w2) hb)
        have o1 := hide (fun w' => op_any (wdAt s k : Nat) w' (by omega) (by omega))
        have o2 := hide (fun w' => a_any (wdAt s k : Nat) w' (by omega) (by omega))
        have o3 := hide (fun w' => b_any (wdAt s k : Nat) w' (by omega) (by omega))
        have o4 := hide (fun w' => c_any (wdAt s k : Nat) w' (by omega) (by omega))
        have o5 := hide (fun w' => k_any (wdAt s k : Nat) w' (by omega) (by omega))
        have HFin : Hid (∀ w2, Below wr.heap.size wr w2 → (w2.setCell ⟨g, (fa (wdAt s k : Nat)).toNat, none⟩ (.string (bya (vS (((blkPuts s).take k).foldl stS begS) (putW (wdAt s k : Nat)))))).ownsRow w.heap.size 9 1 (.slice (some ⟨g, 0, none⟩) 16 cap) 16 (txCs (((blkPuts s).take (k + 1)).foldl stS begS)) ∧ Below w.heap.size w (w2.setCell ⟨g, (fa (wdAt s k : Nat)).toNat, none⟩ (.string (bya (vS (((blkPuts s).take k).foldl stS begS) (putW (wdAt s k : Nat))))))) := fun w2 hb => by
          rw [HStp.out]
          exact ⟨(hrt.out w2 hb).2.2 _ _, (HBl.out.trans (hb.mono hwz)).setCell hgw _⟩
        have b1 := fa_bd (wdAt s k : Nat); have b2 := fb_bd (wdAt s k : Nat); have b3 := fc_bd (wdAt s k : Nat); have b4 := fk_bd (wdAt s k : Nat)
        have ws := vS_word_set (l := ((blkPuts s).take k).foldl stS begS) (v := (wdAt s k : Nat))
        have wl := vS_word_load (l := ((blkPuts s).take k).foldl stS begS) (v := (wdAt s k : Nat))
        have wo := vS_word_op (l := ((blkPuts s).take k).foldl stS begS) (v := (wdAt s k : Nat))
        clear hv hpl hpk hpk' HStp hown hbl' hj
        generalize putW (wdAt s k : Nat) = PW at *
        generalize ((blkPuts s).take k).foldl stS begS = L at *
        generalize fop (wdAt s k : Nat) = op at *
        obtain ⟨A, hA⟩ := Int.eq_ofNat_of_zero_le b1.1
        obtain ⟨C, hC⟩ := Int.eq_ofNat_of_zero_le b3.1
        obtain ⟨B, hB⟩ := Int.eq_ofNat_of_zero_le b2.1
        obtain ⟨K, hK⟩ := Int.eq_ofNat_of_zero_le b4.1
        rw [hA] at o2 HFin b1 hal
        rw [hB] at o3 b2 hcs wl wo
        rw [hC] at o4 b3 hcs wo
        rw [hK] at o5 b4 ws wl
        simp only [Int.toNat_natCast] at HFin ws wl wo
        generalize wdAt s k = v at *
        clear hA hB hC hK
        have hA8 : A < 8 := by omega
        have hA8' : (A : Int) < 16 := by omega
        have hr0 := hrt.out wr (Below.refl _ _)
        rcases hcs with rfl | ⟨h2, h5, hb8, hc8⟩ | ⟨rfl, hb8⟩
        · rw [ws rfl] at HFin
          have HN := hide (fun w' => number_ref K 4 w' (by decide) (by omega))
          have HC : Hid ((⟨#[35]⟩ : ByteArray) ++ bya (numB 4 K) = bya (sCon K)) := by unfold Hid; rw [show (⟨#[35]⟩ : ByteArray) = bya [35] from rfl, bya_app]; rfl
          rw [← HC.out] at HFin
          have z1 : (bya (numB 4 K)).size ≤ 4 := by rw [bya_size, numB_len]; decide
          generalize bya (numB 4 K) = D1 at *
          clear ws wl wo hr0
          go_wp2_with fail
          refine (unhide HV _).mono ?_
          rintro e w' ⟨rfl, hw⟩
          obtain rfl := hw.symm
          go_wp2_with fail
          refine (unhide HPl _).mono ?_
          rintro e w' ⟨rfl, hw⟩
          obtain rfl := hw.symm
          go_wp2_with fail
          refine (unhide o1 _).mono ?_
          rintro e w' ⟨rfl, hw⟩
          obtain rfl := hw.symm
          go_wp2_with fail
          refine (unhide o2 _).mono ?_
          rintro e w' ⟨rfl, hw⟩
          obtain rfl := hw.symm
          go_wp2_with fail
          refine (unhide o3 _).mono ?_
          rintro e w' ⟨rfl, hw⟩
          obtain rfl := hw.symm
          go_wp2_with fail
          refine (unhide o4 _).mono ?_
          rintro e w' ⟨rfl, hw⟩
          obtain rfl := hw.symm
          go_wp2_with fail
          refine (unhide o5 _).mono ?_
          rintro e w' ⟨rfl, hw⟩
          obtain rfl := hw.symm
          go_wp2_with fail
          refine (unhide HN _).mono ?_
          rintro e w2 ⟨rfl, hb2⟩
          obtain ⟨r1, r2, r3⟩ := hrt.out w2 hb2
          have cd := r1 A (by omega)
          have fd := r2 A
          have HE := hide (HFin.out w2 hb2)
          clear hb2 r1 r2 r3
          go_wp2_with fail
          exact ⟨⟨k + 1, j + 4, by omega, by have := HJ.out; omega, by go_num, HE.out.1, HE.out.2⟩, by simp [intOf]; omega⟩
        · obtain ⟨O, hO⟩ := Int.eq_ofNat_of_zero_le (show 0 ≤ op by omega)
          rw [hO] at o1 h2 h5 wo
          rw [wo (by omega) (by omega)] at HFin
          simp only [Int.toNat_natCast] at HFin
          have HJn := hide (fun w' => joined_ref O (L.getD B []) (L.getD C []) (bdX k) w' (by omega) (by omega) (hxl.at (by omega)) (hxl.at (by omega)) (by omega))
          have q1 : ((O : Int) == 1) = false := by simp; omega
          have q6 : ((O : Int) == 6) = false := by simp; omega
          have cb := hr0.1 B (by omega)
          have cc := hr0.1 C (by omega)
          have hB8' : (B : Int) < 16 := by omega
          have hC8' : (C : Int) < 16 := by omega
          generalize bya (jnS O (L.getD B []) (L.getD C [])) = D3 at *
          generalize bya (L.getD B []) = D1 at *
          generalize bya (L.getD C []) = D2 at *
          clear ws wl wo hr0 hO hxl
          go_wp2_with fail
          refine (unhide HV _).mono ?_
          rintro e w' ⟨rfl, hw⟩
          obtain rfl := hw.symm
          go_wp2_with fail
          refine (unhide HPl _).mono ?_
          rintro e w' ⟨rfl, hw⟩
          obtain rfl := hw.symm
          go_wp2_with fail
          refine (unhide o1 _).mono ?_
          rintro e w' ⟨rfl, hw⟩
          obtain rfl := hw.symm
          go_wp2_with fail
          refine (unhide o2 _).mono ?_
          rintro e w' ⟨rfl, hw⟩
          obtain rfl := hw.symm
          go_wp2_with fail
          refine (unhide o3 _).mono ?_
          rintro e w' ⟨rfl, hw⟩
          obtain rfl := hw.symm
          go_wp2_with fail
          refine (unhide o4 _).mono ?_
          rintro e w' ⟨rfl, hw⟩
          obtain rfl := hw.symm
          go_wp2_with fail
          refine (unhide o5 _).mono ?_
          rintro e w' ⟨rfl, hw⟩
          obtain rfl := hw.symm
          go_wp2_with fail
          refine still_tail 9 (by kernel_rfl) (by kernel_rfl) ?_
          simp only [List.take_succ_cons, List.take_zero, List.drop_succ_cons, List.drop_zero]
          repeat still_step
          refine wpStill_nil ?_
          go_wp2_with fail
          refine (unhide HJn _).mono ?_
          rintro e w2 ⟨rfl, hb2⟩
          have hb2' : Below wr.heap.size wr w2 := ((Below.refl _ _).drew).trans hb2
          obtain ⟨r1, r2, r3⟩ := hrt.out w2 hb2'
          have cd := r1 A (by omega)
          have fd := r2 A
          have HE := hide (HFin.out w2 hb2')
          clear hb2 hb2' r1 r2 r3
          go_wp2_with fail
          exact ⟨⟨k + 1, j + 4, by omega, by have := HJ.out; omega, by go_num, HE.out.1, HE.out.2⟩, by simp [intOf]; omega⟩
        · rw [wl rfl] at HFin
          have HJn := hide (fun w' => loaded_ref (L.getD B []) K (bdX k) w' (by omega) (hxl.at (by omega)) (by omega))
          have cb := hr0.1 B (by omega)
          have hB8' : (B : Int) < 16 := by omega
          generalize bya (ldS (L.getD B []) K) = D3 at *
          generalize bya (L.getD B []) = D1 at *
          clear ws wl wo hr0 hxl
          go_wp2_with fail
          refine (unhide HV _).mono ?_
          rintro e w' ⟨rfl, hw⟩
          obtain rfl := hw.symm
          go_wp2_with fail
          refine (unhide HPl _).mono ?_
          rintro e w' ⟨rfl, hw⟩
          obtain rfl := hw.symm
          go_wp2_with fail
          refine (unhide o1 _).mono ?_
          rintro e w' ⟨rfl, hw⟩
          obtain rfl := hw.symm
          go_wp2_with fail
          refine (unhide o2 _).mono ?_
          rintro e w' ⟨rfl, hw⟩
          obtain rfl := hw.symm
          go_wp2_with fail
          refine (unhide o3 _).mono ?_
          rintro e w' ⟨rfl, hw⟩
          obtain rfl := hw.symm
          go_wp2_with fail
          refine (unhide o4 _).mono ?_
          rintro e w' ⟨rfl, hw⟩
          obtain rfl := hw.symm
          go_wp2_with fail
          refine (unhide o5 _).mono ?_
          rintro e w' ⟨rfl, hw⟩
          obtain rfl := hw.symm
          go_wp2_with fail
          refine (unhide HJn _).mono ?_
          rintro e w2 ⟨rfl, hb2⟩
          obtain ⟨r1, r2, r3⟩ := hrt.out w2 hb2
          have cd := r1 A (by omega)
          have fd := r2 A
          have HE := hide (HFin.out w2 hb2)
          clear hb2 r1 r2 r3
          go_wp2_with fail
          exact ⟨⟨k + 1, j + 4, by omega, by have := HJ.out; omega, by go_num, HE.out.1, HE.out.2⟩, by simp [intOf]; omega⟩
      · have hpk : plW (wdAt s k : Nat) = false := by
          have : k = s.size / 4 - 1 := by omega
          have hn : ¬ plW (wdAt s (s.size / 4 - 1) : Nat) = true := fun hq => by
            unfold nPl at hkp
            rw [if_pos hq] at hkp
            omega
          rw [this]
          simpa using hn
        have hpk' : plB (fop (wdAt s k : Nat)) (fa (wdAt s k : Nat)) (fb (wdAt s k : Nat)) (fc (wdAt s k : Nat)) = false := hpk
        rw [hpk'] at hpl
        have HPl := hide hpl
        have HO' : Hid (wr.ownsRow w.heap.size 9 1 (.slice (some ⟨g, 0, none⟩) 16 cap) 16 (txCs (((blkPuts s).take (k + 1)).foldl stS begS))) := by
          rw [List.take_of_length_le (by omega)] at hown
          unfold Hid
          rw [List.take_of_length_le (by omega)]
          exact hown
        clear hv hpl hpk hpk' hown hbl' hj
        generalize wdAt s k = v at *
        go_wp2_with fail
        refine (unhide HV _).mono ?_
        rintro e w' ⟨rfl, hw⟩
        obtain rfl := hw.symm
        go_wp2_with fail
        refine (unhide HPl _).mono ?_
        rintro e w' ⟨rfl, hw⟩
        obtain rfl := hw.symm
        go_wp2_with fail
        exact ⟨⟨k + 1, j + 4, by omega, by have := HJ.out; omega, by go_num, HO'.out, HBl.out⟩, by simp [intOf]; omega⟩
    · have hlt' : ¬ (j : Int) < (s.size : Int) := by omega
      rw [List.take_of_length_le (by omega)] at hown
      have HO := hide hown
      clear hown hbl' hj
      go_wp2_with fail
      go_ret
      exact ⟨HBl.out, _, rfl, HO.out⟩
end Go.Proofs.YtmmflekajbeamaaDoor

namespace Go.Proofs.YtmmflekajbeamaaDoor
open Go.RowKit

theorem bya_inj {x y : List UInt8} : bya x = bya y ↔ x = y := by
  constructor
  · intro h
    have := congrArg (fun b : ByteArray => b.data.toList) h
    simpa [bya] using this
  · rintro rfl; rfl
set_option maxRecDepth 100000 in
set_option maxHeartbeats 2000000 in
theorem refAccept_any (s p : ByteArray) (w : World) (hs : s.size ≤ maxLen) (hp : p.size ≤ maxLen) :
    Calls Tryd.prog 54 #[.string s, .string p] w fun e' w' => Below w.heap.size w w' ∧ ∃ n, e' = .returned (.int .i64 n) ∧ AccIs s p n := by
  by_cases hok : blkOK s
  · have HIb := hide (isBlock_yes s w hok)
    have HPt := hide (refPuts_any p w hp)
    have HBw := hide (fun w' => byWords_ref s w' hok)
    have HOk := hide hok
    clear hok
    go_enter Tryd.func54, Tryd.ntmps54
    go_wp2_with fail
    refine (unhide HIb).mono ?_
    rintro e w' ⟨rfl, hw⟩
    obtain rfl := hw.symm
    go_wp2_with fail
    refine (unhide HPt).mono ?_
    rintro e w1 ⟨hb1, ⟨hpk, pv, rfl, hpo⟩ | ⟨hpn, rfl⟩⟩
    · have HB1 := hide hb1; have HPk := hide hpk; have HPo := hide hpo
      have hz1 := hb1.size
      clear hb1 hpk hpo HPt HIb
      go_wp2_with fail
      refine (unhide HBw _).mono ?_
      rintro e w2 ⟨hb2, v2, rfl, ho2⟩
      have hpo2 : w2.ownsRow w.heap.size 59 5 pv (putL p (p.size / 8)).length (putCs (putL p (p.size / 8))) := by rw [putL_len]; exact own_grow HPo.out hb2
      have HBp := hide (byPuts_ref w.heap.size pv (putL p (p.size / 8)) w2 hpo2 (putL_ok HPk.out) (by rw [putL_len]; have := HPk.out.2.1; omega))
      have HB2 := hide hb2; have HO2 := hide ho2
      have hz2 := hb2.size
      clear hb2 ho2 hpo2 HBw
      go_wp2_with fail
      refine (unhide HBp).mono ?_
      rintro e w3 ⟨hb3, v3, rfl, ho3⟩
      have HB3 : Hid (Below w.heap.size w w3) := (HB1.out.trans (HB2.out.mono hz1)).trans (hb3.mono (Nat.le_trans hz1 hz2))
      have hoX := own_grow HO2.out hb3
      obtain ⟨g2, c2, rfl, _, hg2⟩ := hoX.form (by decide)
      obtain ⟨g3, c3, rfl, _, hg3⟩ := ho3.form (by decide)
      have HX := hide (fun (i : Nat) (hi : i < 16) => (hoX.cellAt i (by omega)).trans (txCs_get (comeS (blkPuts s)) i (by rw [comeS_len]; exact hi)))
      have HY := hide (fun (i : Nat) (hi : i < 16) => (ho3.cellAt i (by omega)).trans (txCs_get (comeS (putL p (p.size / 8))) i (by rw [comeS_len]; exact hi)))
      clear hb3 ho3 hoX HBp HO2
      go_wp2_with fail
      go_loopw [10] (fun i wr => ∃ k : Nat, k ≤ 8 ∧ i = .int .i64 k ∧ Below w3.heap.size w3 wr ∧ Hid (∀ q, q < k → (comeS (blkPuts s)).getD q [] = (comeS (putL p (p.size / 8))).getD q [])) (fun i _ => 8 - (intOf i).toNat)
      case atStart => exact ⟨0, Nat.zero_le _, rfl, Below.refl _ _, fun q hq => by omega⟩
      case round =>
        obtain ⟨k, hk, rfl, hbl, HG⟩ := hrel
        have HBl := hide hbl
        by_cases hlt : k < 8
        · have hlt' : (k : Int) < 8 := by omega
          have hlt16 : (k : Int) < 16 := by omega
          have x0 := (below_cell' hbl g2 k hg2).trans (HX.out k (by omega))
          have y0 := (below_cell' hbl g3 k hg3).trans (HY.out k (by omega))
          by_cases he : (comeS (blkPuts s)).getD k [] = (comeS (putL p (p.size / 8))).getD k []
          · rw [← he] at y0
            have HG' : Hid (∀ q, q < k + 1 → (comeS (blkPuts s)).getD q [] = (comeS (putL p (p.size / 8))).getD q []) := fun q hq => by
              by_cases hqk : q = k
              · rw [hqk]; exact he
              · exact HG.out q (by omega)
            generalize bya ((comeS (blkPuts s)).getD k []) = D at *
            clear he HG hbl
            go_wp2_with fail
            go_quiet (fail)
            go_wp2_with fail
            exact ⟨⟨k + 1, by omega, by go_num, below_drewN HBl.out nq, HG'⟩, by simp [intOf]; omega⟩
          · have HN : Hid (¬ (comeS (blkPuts s)).take 8 = (comeS (putL p (p.size / 8))).take 8) := fun h => he ((take_eq_iff [] (by rw [comeS_len]; decide) (by rw [comeS_len]; decide)).1 h k hlt)
            have hne : ((bya ((comeS (blkPuts s)).getD k [])).toList == (bya ((comeS (putL p (p.size / 8))).getD k [])).toList) = false := by
              rw [ByteArray.toList_eq, ByteArray.toList_eq, bya_list, bya_list]
              exact beq_eq_false_iff_ne.2 he
            generalize bya ((comeS (blkPuts s)).getD k []) = D at *
            generalize bya ((comeS (putL p (p.size / 8))).getD k []) = D' at *
            clear he HG hbl
            go_wp2_with fail
            go_quiet (fail)
            go_wp2_with fail
            go_ret
            exact ⟨HB3.out.trans ((below_drewN HBl.out nq).mono HB3.out.size), _, rfl, .inr (.inr (.inr ⟨HOk.out, HPk.out, HN.out, rfl⟩))⟩
        · have hkn : k = 8 := by omega
          have hlt' : ¬ (k : Int) < 8 := by omega
          have HY' : Hid ((comeS (blkPuts s)).take 8 = (comeS (putL p (p.size / 8))).take 8) := (take_eq_iff [] (by rw [comeS_len]; decide) (by rw [comeS_len]; decide)).2 (fun i hi => HG.out i (by omega))
          clear hbl hkn
          go_wp2_with fail
          go_ret
          exact ⟨HB3.out.trans (HBl.out.mono HB3.out.size), _, rfl, .inr (.inr (.inl ⟨HOk.out, HPk.out, HY'.out, rfl⟩))⟩
    · have HB1 := hide hb1; have HN := hide hpn
      clear hb1 hpn HPt HIb
      go_wp2_with fail
      go_ret
      exact ⟨HB1.out, _, rfl, .inr (.inl ⟨HOk.out, HN.out, rfl⟩)⟩
  · have HIb := hide (isBlock_no s w hok hs)
    have HN := hide hok
    clear hok
    go_enter Tryd.func54, Tryd.ntmps54
    go_wp2_with fail
    refine (unhide HIb).mono ?_
    rintro e w' ⟨rfl, hw⟩
    obtain rfl := hw.symm
    go_wp2_with fail
    go_ret
    exact ⟨Below.refl _ _, _, rfl, .inl ⟨HN.out, rfl⟩⟩
end Go.Proofs.YtmmflekajbeamaaDoor
