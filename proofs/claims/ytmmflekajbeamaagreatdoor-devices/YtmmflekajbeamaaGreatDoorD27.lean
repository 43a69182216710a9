/-
  Plans, the document's answer: what registers come to by puts and by words (byPuts, byWords).
  Plans: two rows of numbers held against each other; Accept.
-/
import Derived.Test.YtmmflekajbeamaaGreatDoorD26
import Derived.Test.YtmmflekajbeamaaGreatDoorD16
import Derived.Test.YtmmflekajbeamaaGreatDoorD17
import Derived.Test.YtmmflekajbeamaaGreatDoorD02
import Derived.ChangeKeysEq
namespace Go.Proofs.YtmmflekajbeamaaGreatDoor
open Go.RowKit

theorem vS_set {l : List (List UInt8)} {p : PutN} (h : p.kind = 1) : vS l p = sCon p.k := by unfold vS; rw [if_pos h]
theorem vS_load {l : List (List UInt8)} {p : PutN} (h : p.kind = 6) : vS l p = ldS (l.getD p.a []) p.k := by unfold vS; rw [if_neg (by omega), if_pos h]
theorem vS_move {l : List (List UInt8)} {p : PutN} (h : p.kind = 7) : vS l p = l.getD p.a [] := by unfold vS; rw [if_neg (by omega), if_neg (by omega), if_pos h]
theorem vS_op {l : List (List UInt8)} {p : PutN} (h2 : 2 ≤ p.kind) (h5 : p.kind ≤ 5) : vS l p = jnS p.kind (l.getD p.a []) (l.getD p.b []) := by unfold vS; rw [if_neg (by omega), if_neg (by omega), if_neg (by omega)]
/-- The row of the slots' texts in a world that has grown. -/
theorem row_txt {w : World} {B : Nat} {g cap : Nat} {l : List (List UInt8)} (h : w.ownsRow B 9 1 (.slice (some ⟨g, 0, none⟩) 16 cap) 16 (txCs l)) (hl : l.length = 16) {w2 : World} (hb : Below w.heap.size w w2) :
    (∀ i, i < 16 → w2.cell? ⟨g, i, none⟩ = some (.string (bya (l.getD i [])))) ∧ (∀ i, w2.frozen? ⟨g, i, none⟩ = false) ∧ ∀ d x, (w2.setCell ⟨g, d, none⟩ (.string (bya x))).ownsRow B 9 1 (.slice (some ⟨g, 0, none⟩) 16 cap) 16 (txCs (l.set d x)) := by
  have h2 := own_grow h hb
  refine ⟨fun i hi => ?_, fun i => h2.frozenAt i, fun d x => ?_⟩
  · rw [h2.cellAt i (by omega), txCs_get l i (by omega)]
  · have := (h2.stored d (.string (bya x))).1
    rw [txCs_set] at this
    exact this

set_option maxRecDepth 100000 in
set_option maxHeartbeats 4000000 in
theorem byPuts_ref (B' : Nat) (pv : Value) (ps : List PutN) (w : World) (hps : w.ownsRow B' 123 5 pv ps.length (putCs ps)) (hp : ∀ p ∈ ps, okPut p ∧ p.k < 4294967296) (hpl : ps.length ≤ 10) :
    Calls Tryz.prog 174 #[pv] w fun e' w' => Below w.heap.size w w' ∧ ∃ v, e' = .returned v ∧ w'.ownsRow w.heap.size 9 1 v 16 (txCs (comeS ps)) := by
  obtain ⟨pa, pc, rfl⟩ := owns_len hps
  have HPs := hide hps; have HOk := hide hp
  have HXS := hide (fun k (hk : k ≤ ps.length) => XSL.fold hp k hk)
  have HBg := hide (begin_ref w)
  clear hps hp
  go_enter Tryz.func174, Tryz.ntmps174
  go_wp2_with fail
  refine (unhide HBg).mono ?_
  rintro e w0 ⟨hb0, v0, rfl, ho0⟩
  obtain ⟨g, cap, rfl, hgw, hgl⟩ := ho0.form (by decide)
  have HB0 := hide hb0; have HO0 := hide ho0
  clear hb0 ho0 HBg
  go_wp2_with fail
  go_loopw [4] (fun i wr => ∃ k : Nat, k ≤ ps.length ∧ i = .int .i64 k ∧ wr.ownsRow w.heap.size 9 1 (.slice (some ⟨g, 0, none⟩) 16 cap) 16 (txCs ((ps.take k).foldl stS begS)) ∧ Below w.heap.size w wr) (fun i _ => ps.length - (intOf i).toNat)
  case atStart => exact ⟨0, Nat.zero_le _, rfl, HO0.out, HB0.out⟩
  case round =>
    obtain ⟨k, hk, rfl, hown, hbl⟩ := hrel
    have HBl := hide hbl
    have hwz := hbl.size
    have hgr : g < wr.heap.size := (row_lt hown g rfl).2
    by_cases hlt : k < ps.length
    · have hlt' : (k : Int) < (ps.length : Int) := by omega
      have hpk : ps[k]? = some ps[k] := List.getElem?_eq_getElem hlt
      have HStp : Hid ((ps.take (k + 1)).foldl stS begS = ((ps.take k).foldl stS begS).set ps[k].d (vS ((ps.take k).foldl stS begS) ps[k])) := foldl_take_succ _ _ _ _ _ hpk
      obtain ⟨hok, hkk⟩ := HOk.out _ (List.getElem_mem hlt)
      have hxl := HXS.out k hk
      have hbd := bdX_10 (n := k) (by omega)
      obtain ⟨pg, pcap, hform, _, hpgl⟩ := HPs.out.form (by omega)
      cases hform
      obtain ⟨x0, x1, x2, x3, x4⟩ := put_cells (own_grow HPs.out hbl) k ps[k] hpk
      have hrt := hide (fun w2 hb => row_txt hown hxl.1 (w2 := w2) hb)
      have HFin : Hid (∀ w2, Below wr.heap.size wr w2 → (w2.setCell ⟨g, ps[k].d, none⟩ (.string (bya (vS ((ps.take k).foldl stS begS) ps[k])))).ownsRow w.heap.size 9 1 (.slice (some ⟨g, 0, none⟩) 16 cap) 16 (txCs ((ps.take (k + 1)).foldl stS begS)) ∧ Below w.heap.size w (w2.setCell ⟨g, ps[k].d, none⟩ (.string (bya (vS ((ps.take k).foldl stS begS) ps[k]))))) := fun w2 hb => by
        rw [HStp.out]
        exact ⟨(hrt.out w2 hb).2.2 _ _, (HBl.out.trans (hb.mono hwz)).setCell hgw _⟩
      have hd16 := hok.1
      have ha16 := hok.2.1
      have hb16 := hok.2.2.1
      have hxa := hxl.at ha16
      have hxb := hxl.at hb16
      generalize (ps.take k).foldl stS begS = L at *
      generalize ps[k] = p at *
      clear hpk hown hbl HStp hxl
      obtain ⟨pk, pd, pa, pb, pk'⟩ := p
      obtain ⟨-, -, -, hc⟩ := hok
      simp only at x0 x1 x2 x3 x4 hd16 ha16 hb16 hxa hxb hc hkk HFin
      have hd16' : (pd : Int) < 16 := by omega
      have ha16' : (pa : Int) < 16 := by omega
      have hb16' : (pb : Int) < 16 := by omega
      have hb1 : ∀ o, Below wr.heap.size wr (wr.alloc o) := fun o => (Below.refl _ _).alloc (Nat.le_refl _) _
      have HB1 := hide hb1
      have ca := ((hrt.out wr (Below.refl _ _)).1 pa ha16)
      have cb := ((hrt.out wr (Below.refl _ _)).1 pb hb16)
      clear hb1
      have hbox : ∀ (w2 : World), Below (wr.heap.size + 1) (wr.alloc (.cells #[.int .i64 (pk : Int), .int .i64 (pd : Int), .int .i64 (pa : Int), .int .i64 (pb : Int), .int .i64 (pk' : Int)] 123)) w2 → w2.cell? ⟨wr.heap.size, 1, none⟩ = some (.int .i64 (pd : Int)) := fun w2 hb => by
        rw [below_cell' hb _ _ (by omega), World.cell?_alloc_at (hn := rfl)]; rfl
      have HBox := hide hbox
      clear hbox
      rcases hc with ⟨rfl, rfl, rfl⟩ | ⟨k2, k5, rfl⟩ | ⟨rfl, rfl, hk6⟩ | ⟨rfl, rfl, rfl⟩
      · rw [vS_set rfl] at HFin
        have HN := hide (fun w' => number_ref pk' 4 w' (by decide) (by omega))
        have HC : Hid ((⟨#[35]⟩ : ByteArray) ++ bya (numB 4 pk') = bya (sCon pk')) := by unfold Hid; rw [show (⟨#[35]⟩ : ByteArray) = bya [35] from rfl, bya_app]; rfl
        rw [← HC.out] at HFin
        have z1 : (bya (numB 4 pk')).size ≤ 4 := by rw [bya_size, numB_len]; decide
        generalize bya (numB 4 pk') = D1 at *
        have x0' : wr.cell? ⟨pg, k * 5, none⟩ = some (.int .i64 1) := x0
        clear x0 ca cb
        go_wp2_with fail
        refine (unhide HN _).mono ?_
        rintro e w2 ⟨rfl, hb2⟩
        have hb2' : Below wr.heap.size wr w2 := (HB1.out _).trans (hb2.mono (by rw [size_alloc1]; omega))
        have y1 := HBox.out w2 (by rw [size_alloc1] at hb2; exact hb2)
        obtain ⟨r1, r2, r3⟩ := hrt.out w2 hb2'
        have cd := r1 pd hd16
        have fd := r2 pd
        have HE := hide (HFin.out w2 hb2')
        clear hb2 hb2' r1 r2 r3
        go_wp2_with fail
        exact ⟨⟨k + 1, by omega, by go_num, HE.out.1, HE.out.2⟩, by simp [intOf]; omega⟩
      · rw [vS_op k2 k5] at HFin
        have HJ := hide (fun w' => joined_ref pk _ _ (bdX k) w' k2 k5 hxa hxb (by omega))
        have q1 : ((pk : Int) == 1) = false := by simp; omega
        have q6 : ((pk : Int) == 6) = false := by simp; omega
        have q7 : ((pk : Int) == 7) = false := by simp; omega
        simp only at HJ HFin
        generalize bya (L.getD pa []) = D1 at *
        generalize bya (L.getD pb []) = D2 at *
        generalize bya (jnS pk (L.getD pa []) (L.getD pb [])) = D3 at *
        clear hxa hxb k2 k5
        go_wp2_with fail
        refine still_tail 12 (by kernel_rfl) (by kernel_rfl) ?_
        simp only [List.take_succ_cons, List.take_zero, List.drop_succ_cons, List.drop_zero]
        repeat still_step
        refine wpStill_nil ?_
        go_wp2_with fail
        refine (unhide HJ _).mono ?_
        rintro e w2 ⟨rfl, hb2⟩
        have hb2' : Below wr.heap.size wr w2 := (HB1.out _).drew.trans (hb2.mono (by show wr.heap.size ≤ (wr.alloc _).heap.size; rw [size_alloc1]; omega))
        have y1 := HBox.out w2 (((Below.refl _ _).drew).trans (hb2.mono (by show wr.heap.size + 1 ≤ (wr.alloc _).heap.size; rw [size_alloc1]; omega)))
        obtain ⟨r1, r2, r3⟩ := hrt.out w2 hb2'
        have cd := r1 pd hd16
        have fd := r2 pd
        have HE := hide (HFin.out w2 hb2')
        clear hb2 hb2' r1 r2 r3
        go_wp2_with fail
        exact ⟨⟨k + 1, by omega, by go_num, HE.out.1, HE.out.2⟩, by simp [intOf]; omega⟩
      · rw [vS_load rfl] at HFin
        have HJ := hide (fun w' => loaded_ref _ pk' (bdX k) w' hk6 hxa (by omega))
        simp only at HJ HFin
        generalize bya (L.getD pa []) = D1 at *
        generalize bya (ldS (L.getD pa []) pk') = D3 at *
        have x0' : wr.cell? ⟨pg, k * 5, none⟩ = some (.int .i64 6) := x0
        clear hxa hxb x0 cb
        go_wp2_with fail
        refine still_tail 7 (by kernel_rfl) (by kernel_rfl) ?_
        simp only [List.take_succ_cons, List.take_zero, List.drop_succ_cons, List.drop_zero]
        repeat still_step
        refine wpStill_nil ?_
        go_wp2_with fail
        refine (unhide HJ _).mono ?_
        rintro e w2 ⟨rfl, hb2⟩
        have hb2' : Below wr.heap.size wr w2 := (HB1.out _).drew.trans (hb2.mono (by show wr.heap.size ≤ (wr.alloc _).heap.size; rw [size_alloc1]; omega))
        have y1 := HBox.out w2 (((Below.refl _ _).drew).trans (hb2.mono (by show wr.heap.size + 1 ≤ (wr.alloc _).heap.size; rw [size_alloc1]; omega)))
        obtain ⟨r1, r2, r3⟩ := hrt.out w2 hb2'
        have cd := r1 pd hd16
        have fd := r2 pd
        have HE := hide (HFin.out w2 hb2')
        clear hb2 hb2' r1 r2 r3
        go_wp2_with fail
        exact ⟨⟨k + 1, by omega, by go_num, HE.out.1, HE.out.2⟩, by simp [intOf]; omega⟩
      · rw [vS_move rfl] at HFin
        simp only at HFin
        have cd := (hrt.out wr (Below.refl _ _)).1 pd hd16
        have fd := (hrt.out wr (Below.refl _ _)).2.1 pd
        have hgr' : g ≠ wr.heap.size := by omega
        generalize bya (L.getD pa []) = D1 at *
        have x0' : wr.cell? ⟨pg, k * 5, none⟩ = some (.int .i64 7) := x0
        clear hxa hxb x0 cb
        have HE := hide (HFin.out wr (Below.refl _ _))
        go_wp2_with fail
        exact ⟨⟨k + 1, by omega, by go_num, HE.out.1.alloc _, HE.out.2.alloc (by simp; omega) _⟩, by simp [intOf]; omega⟩
    · have hlt' : ¬ (k : Int) < (ps.length : Int) := by omega
      obtain rfl : k = ps.length := by omega
      rw [List.take_length] at hown
      have HO := hide hown
      clear hown hbl
      go_wp2_with fail
      go_ret
      exact ⟨HBl.out, _, rfl, HO.out⟩

/-- The puts of plain words, by the fields that the document reads. -/
theorem vS_word_set {l : List (List UInt8)} {v : Int} (h : fop v = 1) : vS l (putW v) = sCon (fk v).toNat := by unfold putW; rw [if_pos h]; rfl
theorem vS_word_load {l : List (List UInt8)} {v : Int} (h : fop v = 6) : vS l (putW v) = ldS (l.getD (fb v).toNat []) (fk v).toNat := by unfold putW; rw [if_neg (by omega), if_pos h]; rfl
theorem vS_word_op {l : List (List UInt8)} {v : Int} (h2 : 2 ≤ fop v) (h5 : fop v ≤ 5) : vS l (putW v) = jnS (fop v).toNat (l.getD (fb v).toNat []) (l.getD (fc v).toNat []) := by
  unfold putW
  rw [if_neg (by omega), if_neg (by omega)]
  exact vS_op (by dsimp only; omega) (by dsimp only; omega)
theorem putW_d (v : Int) : (putW v).d = (fa v).toNat := by unfold putW; split; rfl; split <;> rfl

set_option maxRecDepth 100000 in
set_option maxHeartbeats 4000000 in
theorem byWords_ref (s : ByteArray) (w : World) (h : blkOK s) :
    Calls Tryz.prog 173 #[.string s] w fun e' w' => Below w.heap.size w w' ∧ ∃ v, e' = .returned v ∧ w'.ownsRow w.heap.size 9 1 v 16 (txCs (comeS (blkPuts s))) := by
  have hs4 := h.1; have hs32 := h.2.1; have hm4 := h.2.2.1
  have HBk := hide h
  have hnp := nPl_le s
  have hnp2 : s.size / 4 - 1 ≤ nPl s := by unfold nPl; split <;> omega
  have hbl : (blkPuts s).length = nPl s := by simp [blkPuts]
  have HXS := hide (fun k (hk : k ≤ (blkPuts s).length) => XSL.fold (blkPuts_ok h) k hk)
  have HBg := hide (begin_ref w)
  have hbp : ∀ k, k < nPl s → (blkPuts s)[k]? = some (putW (wdAt s k : Nat)) := fun k hk => by
    unfold blkPuts
    rw [List.getElem?_map, List.getElem?_range hk]; rfl
  have HBp := hide hbp
  clear hbp h
  go_enter Tryz.func173, Tryz.ntmps173
  go_wp2_with fail
  refine (unhide HBg).mono ?_
  rintro e w0 ⟨hb0, v0, rfl, ho0⟩
  obtain ⟨g, cap, rfl, hgw, hgl⟩ := ho0.form (by decide)
  have HB0 := hide hb0; have HO0 := hide ho0
  clear hb0 ho0 HBg
  go_wp2_with fail
  go_loopw [4] (fun i wr => ∃ k j : Nat, k ≤ s.size / 4 ∧ j = 4 * k ∧ i = .int .i64 j ∧ wr.ownsRow w.heap.size 9 1 (.slice (some ⟨g, 0, none⟩) 16 cap) 16 (txCs (((blkPuts s).take k).foldl stS begS)) ∧ Below w.heap.size w wr) (fun i _ => s.size - (intOf i).toNat)
  case atStart => exact ⟨0, 0, Nat.zero_le _, rfl, rfl, HO0.out, HB0.out⟩
  case round =>
    obtain ⟨k, j, hk, hj, rfl, hown, hbl'⟩ := hrel
    have HBl := hide hbl'
    have HJ := hide hj
    have hwz := hbl'.size
    by_cases hlt : k < s.size / 4
    · have hlt' : (j : Int) < (s.size : Int) := by omega
      have hj4 : j + 4 ≤ s.size := by omega
      have hwl := wdAt_lt s k
      have hv : ∀ w', Calls Tryz.prog 169 #[.string s, .int .i64 (j : Int), .int .i64 4] w' fun e' w'' => e' = .returned (.int .i64 (wdAt s k : Nat)) ∧ w'' = w' := fun w' => by
        have := value_any s j 4 w' (by decide) (by omega) (by omega)
        unfold wdAt
        rw [← hj]
        exact this
      have HV := hide hv
      have hpl := fun w' => plain_any (wdAt s k : Nat) w' (by omega) (by omega)
      by_cases hkp : k < nPl s
      · have hpk : plW (wdAt s k : Nat) = true := blk_plain HBk.out hkp
        have hpk' : plB (fop (wdAt s k : Nat)) (fa (wdAt s k : Nat)) (fb (wdAt s k : Nat)) (fc (wdAt s k : Nat)) = true := hpk
        rw [hpk'] at hpl
        have HPl := hide hpl
        obtain ⟨hal, hcs⟩ := plB_cases hpk
        have HStp : Hid (((blkPuts s).take (k + 1)).foldl stS begS = (((blkPuts s).take k).foldl stS begS).set (fa (wdAt s k : Nat)).toNat (vS (((blkPuts s).take k).foldl stS begS) (putW (wdAt s k : Nat)))) := by
          unfold Hid
          rw [foldl_take_succ _ _ _ _ _ (HBp.out k hkp), ← putW_d]
          rfl
        have hxl := HXS.out k (by omega)
        have hbd := bdX_10 (n := k) (by omega)
        have hrt := hide (fun w2 hb => row_txt hown hxl.1 (w2 := w2) hb)
        have o1 := hide (fun w' => op_any (wdAt s k : Nat) w' (by omega) (by omega))
        have o2 := hide (fun w' => a_any (wdAt s k : Nat) w' (by omega) (by omega))
        have o3 := hide (fun w' => b_any (wdAt s k : Nat) w' (by omega) (by omega))
        have o4 := hide (fun w' => c_any (wdAt s k : Nat) w' (by omega) (by omega))
        have o5 := hide (fun w' => k_any (wdAt s k : Nat) w' (by omega) (by omega))
        have HFin : Hid (∀ w2, Below wr.heap.size wr w2 → (w2.setCell ⟨g, (fa (wdAt s k : Nat)).toNat, none⟩ (.string (bya (vS (((blkPuts s).take k).foldl stS begS) (putW (wdAt s k : Nat)))))).ownsRow w.heap.size 9 1 (.slice (some ⟨g, 0, none⟩) 16 cap) 16 (txCs (((blkPuts s).take (k + 1)).foldl stS begS)) ∧ Below w.heap.size w (w2.setCell ⟨g, (fa (wdAt s k : Nat)).toNat, none⟩ (.string (bya (vS (((blkPuts s).take k).foldl stS begS) (putW (wdAt s k : Nat))))))) := fun w2 hb => by
          rw [HStp.out]
          exact ⟨(hrt.out w2 hb).2.2 _ _, (HBl.out.trans (hb.mono hwz)).setCell hgw _⟩
        have b1 := fa_bd (wdAt s k : Nat); have b2 := fb_bd (wdAt s k : Nat); have b3 := fc_bd (wdAt s k : Nat); have b4 := fk_bd (wdAt s k : Nat)
        have ws := vS_word_set (l := ((blkPuts s).take k).foldl stS begS) (v := (wdAt s k : Nat))
        have wl := vS_word_load (l := ((blkPuts s).take k).foldl stS begS) (v := (wdAt s k : Nat))
        have wo := vS_word_op (l := ((blkPuts s).take k).foldl stS begS) (v := (wdAt s k : Nat))
        clear hv hpl hpk hpk' HStp hown hbl' hj
        generalize putW (wdAt s k : Nat) = PW at *
        generalize ((blkPuts s).take k).foldl stS begS = L at *
        generalize fop (wdAt s k : Nat) = op at *
        obtain ⟨A, hA⟩ := Int.eq_ofNat_of_zero_le b1.1
        obtain ⟨C, hC⟩ := Int.eq_ofNat_of_zero_le b3.1
        obtain ⟨B, hB⟩ := Int.eq_ofNat_of_zero_le b2.1
        obtain ⟨K, hK⟩ := Int.eq_ofNat_of_zero_le b4.1
        rw [hA] at o2 HFin b1 hal
        rw [hB] at o3 b2 hcs wl wo
        rw [hC] at o4 b3 hcs wo
        rw [hK] at o5 b4 ws wl
        simp only [Int.toNat_natCast] at HFin ws wl wo
        generalize wdAt s k = v at *
        clear hA hB hC hK
        have hA8 : A < 8 := by omega
        have hA8' : (A : Int) < 16 := by omega
        have hr0 := hrt.out wr (Below.refl _ _)
        rcases hcs with rfl | ⟨h2, h5, hb8, hc8⟩ | ⟨rfl, hb8⟩
        · rw [ws rfl] at HFin
          have HN := hide (fun w' => number_ref K 4 w' (by decide) (by omega))
          have HC : Hid ((⟨#[35]⟩ : ByteArray) ++ bya (numB 4 K) = bya (sCon K)) := by unfold Hid; rw [show (⟨#[35]⟩ : ByteArray) = bya [35] from rfl, bya_app]; rfl
          rw [← HC.out] at HFin
          have z1 : (bya (numB 4 K)).size ≤ 4 := by rw [bya_size, numB_len]; decide
          generalize bya (numB 4 K) = D1 at *
          clear ws wl wo hr0
          go_wp2_with fail
          refine (unhide HV _).mono ?_
          rintro e w' ⟨rfl, hw⟩
          obtain rfl := hw.symm
          go_wp2_with fail
          refine (unhide HPl _).mono ?_
          rintro e w' ⟨rfl, hw⟩
          obtain rfl := hw.symm
          go_wp2_with fail
          refine (unhide o1 _).mono ?_
          rintro e w' ⟨rfl, hw⟩
          obtain rfl := hw.symm
          go_wp2_with fail
          refine (unhide o2 _).mono ?_
          rintro e w' ⟨rfl, hw⟩
          obtain rfl := hw.symm
          go_wp2_with fail
          refine (unhide o3 _).mono ?_
          rintro e w' ⟨rfl, hw⟩
          obtain rfl := hw.symm
          go_wp2_with fail
          refine (unhide o4 _).mono ?_
          rintro e w' ⟨rfl, hw⟩
          obtain rfl := hw.symm
          go_wp2_with fail
          refine (unhide o5 _).mono ?_
          rintro e w' ⟨rfl, hw⟩
          obtain rfl := hw.symm
          go_wp2_with fail
          refine (unhide HN _).mono ?_
          rintro e w2 ⟨rfl, hb2⟩
          obtain ⟨r1, r2, r3⟩ := hrt.out w2 hb2
          have cd := r1 A (by omega)
          have fd := r2 A
          have HE := hide (HFin.out w2 hb2)
          clear hb2 r1 r2 r3
          go_wp2_with fail
          exact ⟨⟨k + 1, j + 4, by omega, by have := HJ.out; omega, by go_num, HE.out.1, HE.out.2⟩, by simp [intOf]; omega⟩
        · obtain ⟨O, hO⟩ := Int.eq_ofNat_of_zero_le (show 0 ≤ op by omega)
          rw [hO] at o1 h2 h5 wo
          rw [wo (by omega) (by omega)] at HFin
          simp only [Int.toNat_natCast] at HFin
          have HJn := hide (fun w' => joined_ref O (L.getD B []) (L.getD C []) (bdX k) w' (by omega) (by omega) (hxl.at (by omega)) (hxl.at (by omega)) (by omega))
          have q1 : ((O : Int) == 1) = false := by simp; omega
          have q6 : ((O : Int) == 6) = false := by simp; omega
          have cb := hr0.1 B (by omega)
          have cc := hr0.1 C (by omega)
          have hB8' : (B : Int) < 16 := by omega
          have hC8' : (C : Int) < 16 := by omega
          generalize bya (jnS O (L.getD B []) (L.getD C [])) = D3 at *
          generalize bya (L.getD B []) = D1 at *
          generalize bya (L.getD C []) = D2 at *
          clear ws wl wo hr0 hO hxl
          go_wp2_with fail
          refine (unhide HV _).mono ?_
          rintro e w' ⟨rfl, hw⟩
          obtain rfl := hw.symm
          go_wp2_with fail
          refine (unhide HPl _).mono ?_
          rintro e w' ⟨rfl, hw⟩
          obtain rfl := hw.symm
          go_wp2_with fail
          refine (unhide o1 _).mono ?_
          rintro e w' ⟨rfl, hw⟩
          obtain rfl := hw.symm
          go_wp2_with fail
          refine (unhide o2 _).mono ?_
          rintro e w' ⟨rfl, hw⟩
          obtain rfl := hw.symm
          go_wp2_with fail
          refine (unhide o3 _).mono ?_
          rintro e w' ⟨rfl, hw⟩
          obtain rfl := hw.symm
          go_wp2_with fail
          refine (unhide o4 _).mono ?_
          rintro e w' ⟨rfl, hw⟩
          obtain rfl := hw.symm
          go_wp2_with fail
          refine (unhide o5 _).mono ?_
          rintro e w' ⟨rfl, hw⟩
          obtain rfl := hw.symm
          go_wp2_with fail
          refine still_tail 9 (by kernel_rfl) (by kernel_rfl) ?_
          simp only [List.take_succ_cons, List.take_zero, List.drop_succ_cons, List.drop_zero]
          repeat still_step
          refine wpStill_nil ?_
          go_wp2_with fail
          refine (unhide HJn _).mono ?_
          rintro e w2 ⟨rfl, hb2⟩
          have hb2' : Below wr.heap.size wr w2 := ((Below.refl _ _).drew).trans hb2
          obtain ⟨r1, r2, r3⟩ := hrt.out w2 hb2'
          have cd := r1 A (by omega)
          have fd := r2 A
          have HE := hide (HFin.out w2 hb2')
          clear hb2 hb2' r1 r2 r3
          go_wp2_with fail
          exact ⟨⟨k + 1, j + 4, by omega, by have := HJ.out; omega, by go_num, HE.out.1, HE.out.2⟩, by simp [intOf]; omega⟩
        · rw [wl rfl] at HFin
          have HJn := hide (fun w' => loaded_ref (L.getD B []) K (bdX k) w' (by omega) (hxl.at (by omega)) (by omega))
          have cb := hr0.1 B (by omega)
          have hB8' : (B : Int) < 16 := by omega
          generalize bya (ldS (L.getD B []) K) = D3 at *
          generalize bya (L.getD B []) = D1 at *
          clear ws wl wo hr0 hxl
          go_wp2_with fail
          refine (unhide HV _).mono ?_
          rintro e w' ⟨rfl, hw⟩
          obtain rfl := hw.symm
          go_wp2_with fail
          refine (unhide HPl _).mono ?_
          rintro e w' ⟨rfl, hw⟩
          obtain rfl := hw.symm
          go_wp2_with fail
          refine (unhide o1 _).mono ?_
          rintro e w' ⟨rfl, hw⟩
          obtain rfl := hw.symm
          go_wp2_with fail
          refine (unhide o2 _).mono ?_
          rintro e w' ⟨rfl, hw⟩
          obtain rfl := hw.symm
          go_wp2_with fail
          refine (unhide o3 _).mono ?_
          rintro e w' ⟨rfl, hw⟩
          obtain rfl := hw.symm
          go_wp2_with fail
          refine (unhide o4 _).mono ?_
          rintro e w' ⟨rfl, hw⟩
          obtain rfl := hw.symm
          go_wp2_with fail
          refine (unhide o5 _).mono ?_
          rintro e w' ⟨rfl, hw⟩
          obtain rfl := hw.symm
          go_wp2_with fail
          refine (unhide HJn _).mono ?_
          rintro e w2 ⟨rfl, hb2⟩
          obtain ⟨r1, r2, r3⟩ := hrt.out w2 hb2
          have cd := r1 A (by omega)
          have fd := r2 A
          have HE := hide (HFin.out w2 hb2)
          clear hb2 r1 r2 r3
          go_wp2_with fail
          exact ⟨⟨k + 1, j + 4, by omega, by have := HJ.out; omega, by go_num, HE.out.1, HE.out.2⟩, by simp [intOf]; omega⟩
      · have hpk : plW (wdAt s k : Nat) = false := by
          have : k = s.size / 4 - 1 := by omega
          have hn : ¬ plW (wdAt s (s.size / 4 - 1) : Nat) = true := fun hq => by
            unfold nPl at hkp
            rw [if_pos hq] at hkp
            omega
          rw [this]
          simpa using hn
        have hpk' : plB (fop (wdAt s k : Nat)) (fa (wdAt s k : Nat)) (fb (wdAt s k : Nat)) (fc (wdAt s k : Nat)) = false := hpk
        rw [hpk'] at hpl
        have HPl := hide hpl
        have HO' : Hid (wr.ownsRow w.heap.size 9 1 (.slice (some ⟨g, 0, none⟩) 16 cap) 16 (txCs (((blkPuts s).take (k + 1)).foldl stS begS))) := by
          rw [List.take_of_length_le (by omega)] at hown
          unfold Hid
          rw [List.take_of_length_le (by omega)]
          exact hown
        clear hv hpl hpk hpk' hown hbl' hj
        generalize wdAt s k = v at *
        go_wp2_with fail
        refine (unhide HV _).mono ?_
        rintro e w' ⟨rfl, hw⟩
        obtain rfl := hw.symm
        go_wp2_with fail
        refine (unhide HPl _).mono ?_
        rintro e w' ⟨rfl, hw⟩
        obtain rfl := hw.symm
        go_wp2_with fail
        exact ⟨⟨k + 1, j + 4, by omega, by have := HJ.out; omega, by go_num, HO'.out, HBl.out⟩, by simp [intOf]; omega⟩
    · have hlt' : ¬ (j : Int) < (s.size : Int) := by omega
      rw [List.take_of_length_le (by omega)] at hown
      have HO := hide hown
      clear hown hbl' hj
      go_wp2_with fail
      go_ret
      exact ⟨HBl.out, _, rfl, HO.out⟩
end Go.Proofs.YtmmflekajbeamaaGreatDoor

namespace Go.Proofs.YtmmflekajbeamaaGreatDoor
open Go.RowKit Go.Maps Go.WideMaps

theorem eqItems_gen {P : Program} (d : Nat) {e : TypeId} (he : P.underlying e = some (.int .i64)) (x y : List Int) (w : World) : ∀ (is : List Nat), (∀ i ∈ is, i < x.length ∧ i < y.length) →
    (Op.eqItems (d + 1) e 1 (S x) (S y) is).run P w = .ok (is.all fun i => gz x i == gz y i) w
  | [], _ => by simp [Op.eqItems]
  | i :: is, h => by
    obtain ⟨h1, h2⟩ := h i (by simp)
    have px : (part e (S x) (i * 1)).run P w = .ok (.int .i64 (gz x i)) w := by
      rw [Nat.mul_one]
      simp [part, isAgg, run_underlying he, S_get x i h1]
    have py : (part e (S y) (i * 1)).run P w = .ok (.int .i64 (gz y i)) w := by
      rw [Nat.mul_one]
      simp [part, isAgg, run_underlying he, S_get y i h2]
    have pe : (Op.equalIn (d + 1) e (.int .i64 (gz x i)) (.int .i64 (gz y i))).run P w = .ok (gz x i == gz y i) w := run_equalIn_int w d e .i64 .i64 _ _ he
    simp only [Op.eqItems, Sem.run_bind, px, py, pe, Result.andThen_ok, List.all_cons]
    cases hq : (gz x i == gz y i)
    · simp
    · simpa using eqItems_gen d he x y w is (fun j hj => h j (by simp [hj]))
theorem csI1 : Tryz.prog.cellsOf 3 = 1 := by kernel_rfl
theorem infI1 : ∃ i, Tryz.prog.info? 3 = some i := by
  cases h : Tryz.prog.info? 3 with
  | none => exact absurd (show (Tryz.prog.info? 3).isSome = true by kernel_rfl) (by rw [h]; decide)
  | some i => exact ⟨i, rfl⟩
theorem all_eq {x y : List Int} {n : Nat} (hx : x.length = n) (hy : y.length = n) : ((List.range n).all fun i => gz x i == gz y i) = decide (x = y) := by
  rw [Bool.eq_iff_iff, List.all_eq_true, decide_eq_true_eq]
  constructor
  · intro h
    apply List.ext_getElem?
    intro i
    by_cases hi : i < n
    · have := h i (List.mem_range.2 hi)
      rw [beq_iff_eq] at this
      unfold gz at this
      rw [List.getD_eq_getElem?_getD, List.getD_eq_getElem?_getD, List.getElem?_eq_getElem (by omega), List.getElem?_eq_getElem (by omega)] at this
      rw [List.getElem?_eq_getElem (by omega), List.getElem?_eq_getElem (by omega)]
      simpa using this
    · rw [List.getElem?_eq_none (by omega), List.getElem?_eq_none (by omega)]
  · rintro rfl i _
    exact beq_self_eq_true _
theorem eq8 (x y : List Int) (hx : x.length = 8) (hy : y.length = 8) (w : World) : (binOp .eql 25 (.agg (S x)) (.agg (S y))).run Tryz.prog w = .ok (.bool (decide (x = y))) w := by
  obtain ⟨i, hi⟩ := infI1
  rw [run_eql_struct, run_equalIn_array w 9999 (S x) (S y) Tryz.underlying25 hi, csI1, eqItems_gen 9998 Tryz.underlying3 x y w _ (fun j hj => by have := List.mem_range.1 hj; omega), all_eq hx hy]
  rfl
/-- The document's answer to Accept. -/
def AccIs (s p : ByteArray) (n : Int) : Prop :=
  (¬ blkOK s ∧ n = 10) ∨ (blkOK s ∧ ¬ putsOK p ∧ n = 11) ∨ (blkOK s ∧ putsOK p ∧ (comeS (blkPuts s)).take 8 = (comeS (putL p (p.size / 8))).take 8 ∧ n = 0) ∨ (blkOK s ∧ putsOK p ∧ ¬ (comeS (blkPuts s)).take 8 = (comeS (putL p (p.size / 8))).take 8 ∧ n = 12)
theorem AccIs.one {s p : ByteArray} {n m : Int} (h : AccIs s p n) (k : AccIs s p m) : n = m := by
  unfold AccIs at h k
  rcases h with ⟨h1, h2⟩ | ⟨h1, h2, h3⟩ | ⟨h1, h2, h3, h4⟩ | ⟨h1, h2, h3, h4⟩ <;> rcases k with ⟨k1, k2⟩ | ⟨k1, k2, k3⟩ | ⟨k1, k2, k3, k4⟩ | ⟨k1, k2, k3, k4⟩
  all_goals first | exact absurd h1 k1 | exact absurd k1 h1 | exact absurd h2 k2 | exact absurd k2 h2 | exact absurd h3 k3 | exact absurd k3 h3 | omega
/-- The program's words of a block, against the text's. -/
theorem plN_nPl {s : ByteArray} (h : blkOK s) : plN (blkL s (s.size / 4)) = nPl s := by
  have h4 := h.1
  unfold plN nPl
  rw [blkL_len, blkL_at s (by omega)]
  cases hq : plW (wdAt s (s.size / 4 - 1))
  · rw [if_pos ⟨by omega, rfl⟩, if_neg (by decide)]
  · rw [if_neg (fun h => by cases h.2), if_pos rfl]
theorem blkL_take (s : ByteArray) {k n : Nat} (h : n ≤ k) : (blkL s k).take n = blkL s n := by
  unfold blkL
  rw [← List.map_take, List.take_range, Nat.min_eq_left h]
theorem pwL_blk (s : ByteArray) : pwL (blkL s (nPl s)) = blkPuts s := by
  unfold pwL blkL blkPuts
  rw [List.map_map]
  rfl
theorem tab_new (W : World) : TabAt W.heap.size (W.heap.size + 1) [] W.heap.size (.slice none 0 0) ((W.alloc (.map #[] 0)).alloc (.cells #[.map (some W.heap.size), .slice none 0 0] 270)) := by
  refine ⟨?_, ?_, fun i => ?_, by omega, Nat.le_refl _, (fun g hg => by cases hg), World.ownsRow_nil _ _ _ _, .map [], (World.ownsMap_made W _ _ _).alloc _, fun e _ => ⟨⟨fun h => (by cases h), fun h => (by cases h)⟩, fun n hn => (by simp at hn)⟩⟩
  · rw [World.cell?_alloc_at (hn := by rw [size_alloc1])]; rfl
  · rw [World.cell?_alloc_at (hn := by rw [size_alloc1])]; rfl
  · rw [World.frozen?_alloc_at (hn := by rw [size_alloc1])]
theorem mk137 (w : World) : (Instr.makeMap 267 none).run Tryz.prog w = .ok (.map (some w.heap.size)) (w.alloc (.map #[] 0)) := by kernel_rfl
theorem nI_inj {a b : List Nat} : nI a = nI b ↔ a = b := by
  unfold nI
  constructor
  · intro h
    exact List.map_inj_right (fun x y h => by omega) |>.1 h
  · rintro rfl; rfl
theorem own_take {w : World} {B : Nat} {v : Value} {n m : Nat} {xs : List Value} {e : TypeId} {k : Nat} (h : w.ownsRow B e k v n xs) (hn : n = m) : w.ownsRow B e k v m xs := hn ▸ h

set_option maxRecDepth 100000 in
set_option maxHeartbeats 2000000 in
theorem meanAccept_any (s p : ByteArray) (w : World) (ht : Tab w) (hs : s.size ≤ maxLen) (hp : p.size ≤ maxLen) :
    Calls Tryz.prog 171 #[.string s, .string p] w fun e' w' => Below w.heap.size w w' ∧ ∃ n, e' = .returned (.int .i64 n) ∧ AccIs s p n := by
  have z9 := zero9
  have HRd := hide (blkRead_any s w ht hs)
  have HPt := hide (fun w' => plansPuts_any p w' hp)
  have HTb := hide ht
  have hpos := ht.pos
  clear ht
  go_enter Tryz.func171, Tryz.ntmps171
  go_wp2_with fail
  refine (unhide HRd).mono ?_
  rintro e w1 ⟨hb1, ⟨hok, rfl⟩ | ⟨hno, rfl⟩⟩
  · have HB1 := hide hb1; have HOk := hide hok
    have hz1 := hb1.size
    have h8 : s.size / 4 ≤ 8 := by have := hok.2.1; omega
    have hzl := wdZ_len (ws := blkL s (s.size / 4)) (by rw [blkL_len]; exact h8)
    clear hb1 hok HRd
    go_wp2_with (refine wpList_storeR size9 rfl _ _ rfl w1.heap.size rfl (wdZ (blkL s (s.size / 4))) rfl hzl (by rw [isRowB_alloc_at _ _ _ _ _ rfl]; rfl) _ (setRow_alloc_at _ _ _ _ _ rfl) ?_)
    refine (unhide HPt _).mono ?_
    rintro e w2 ⟨hb2, ⟨hpk, pv, rfl, hpo⟩ | ⟨hpn, rfl⟩⟩
    · have HRw := hide (RowI.keep (w' := w2) (show RowI (w1.alloc (.cells (S (wdZ (blkL s (s.size / 4)))) 187)) w1.heap.size 187 (wdZ (blkL s (s.size / 4))) from _root_.Go.heap_alloc_new w1 _) (hb2.block _ (by rw [size_alloc1]; omega)))
      have HB2 : Hid (Below w.heap.size w w2) := (HB1.out.alloc hz1 _).trans (hb2.mono (by rw [size_alloc1]; omega))
      have hz2 : w1.heap.size < w2.heap.size := HRw.out.lt
      have HPk := hide hpk; have HPo := hide hpo
      have HRl := hide (fun w' => plain_list (blkL s (s.size / 4)) w')
      clear hb2 hpk hpo HPt
      obtain ⟨W3, hW3⟩ : ∃ W3, W3 = ((w2.alloc (.map #[] 0)).alloc (.cells #[.map (some w2.heap.size), .slice none 0 0] 270)) := ⟨_, rfl⟩
      have HW := hide hW3
      have h3b : Below w2.heap.size w2 W3 := by rw [hW3]; exact ((Below.refl _ _).alloc (Nat.le_refl _) _).alloc (by rw [size_alloc1]; omega) _
      have h3z : W3.heap.size = w2.heap.size + 1 + 1 := by rw [hW3, size_alloc1, size_alloc1]
      have H3T : Hid (TabAt w2.heap.size (w2.heap.size + 1) [] w2.heap.size (.slice none 0 0) W3) := by unfold Hid; rw [hW3]; exact tab_new w2
      have H3B := hide h3b
      have r3 := HRw.out.keep (h3b.block _ hz2)
      have rI := r3.isRow 9 hzl
      have rD := r3.rowD
      have HPl := hide (plain_list (blkL s (s.size / 4)) W3 (HTb.out.below hpos (HB2.out.trans (h3b.mono (Nat.le_trans hz1 (Nat.le_of_lt hz2))))) (by rw [blkL_len]; exact h8) (blkL_bd s _))
      have mk := mk137 w2
      clear hW3 h3b r3 HRl
      go_wp2_with (refine wpList_loadR rfl Tryz.underlying187 size9 rfl _ rfl w1.heap.size rfl (by rw [← HW.out]; exact rI) (S (wdZ (blkL s (s.size / 4)))) (by rw [← HW.out]; exact rD) ?_)
      rw [← HW.out]
      refine (unhide HPl).mono ?_
      rintro e w4 ⟨hb4, fv, rfl, hfo⟩
      rw [plN_nPl HOk.out, blkL_take s (nPl_le s)] at hfo
      have HOf := hide (ofWords_any _ fv (blkL s (nPl s)) w4 (own_take hfo (blkL_len s _).symm) (by rw [blkL_len]; exact Nat.le_trans (nPl_le s) h8))
      have HB4 := hide hb4
      have hz4 := hb4.size
      clear hb4 hfo HPl rI rD
      go_wp2_with fail
      refine (unhide HOf).mono ?_
      rintro e w5 ⟨hb5, pv1, rfl, hpo1⟩
      rw [pwL_blk, blkL_len, ← nPl_len] at hpo1
      have hz5 := hb5.size
      have H35 : Hid (Below W3.heap.size W3 w5) := HB4.out.trans (hb5.mono hz4)
      have HCo := hide (comeTo_any w2.heap.size _ (w2.heap.size + 1) [] [] w2.heap.size (.slice none 0 0) pv1 (blkPuts s) w5 (H3T.out.above H35.out) TI.nil hpo1 (blkPuts_ok HOk.out) (by rw [nPl_len]; have := nPl_le s; omega) (by simp) (fun g hg => by have := (row_lt hpo1 g hg).1; omega))
      clear hb5 hpo1 HOf
      go_wp2_with fail
      refine (unhide HCo).mono ?_
      rintro e w6 ⟨T1, ds1, v1, ns1, rfl, c1, c2, c3, c4, c5, c6⟩
      have H25 : Hid (Below w2.heap.size w2 w6) := (H3B.out.trans (H35.out.mono (by omega))).trans c5.below
      have hpo6 : w6.ownsRow (w1.alloc (.cells (S (wdZ (blkL s (s.size / 4)))) 187)).heap.size 123 5 pv (putL p (p.size / 8)).length (putCs (putL p (p.size / 8))) := own_take (own_grow HPo.out H25.out) (putL_len p _).symm
      have HCo2 := hide (comeTo_any w2.heap.size _ (w2.heap.size + 1) T1 ds1 w2.heap.size v1 pv (putL p (p.size / 8)) w6 c1 c2 hpo6 (putL_ok HPk.out) (by rw [putL_len]; have := HPk.out.2.1; omega) (by simp at c6; omega) (fun g hg => by have := (row_lt HPo.out g hg).2; omega))
      have HC4 := hide c4; have HC2 := hide c2
      have hl1 := c4.n16
      clear c1 c2 c3 c4 c5 c6 hpo6 HCo
      go_wp2_with fail
      refine (unhide HCo2).mono ?_
      rintro e w7 ⟨T2, ds2, v2, ns2, rfl, q1, q2, q3, q4, q5, q6⟩
      have HB7 : Hid (Below w.heap.size w w7) := HB2.out.trans ((H25.out.trans q5.below).mono (Nat.le_trans hz1 (Nat.le_of_lt hz2)))
      have HSm : Hid (nI (ns1.take 8) = nI (ns2.take 8) ↔ (comeS (blkPuts s)).take 8 = (comeS (putL p (p.size / 8))).take 8) := by
        unfold Hid
        rw [nI_inj]
        exact Slots.same q2 (HC4.out.more HC2.out.len q3) q4
      have hl2 := q4.n16
      have heq := eq8 (nI (ns1.take 8)) (nI (ns2.take 8)) (by rw [nI_len, List.length_take]; omega) (by rw [nI_len, List.length_take]; omega)
      clear q1 q2 q3 q4 q5 q6 HCo2 HC4
      by_cases hsame : nI (ns1.take 8) = nI (ns2.take 8)
      · rw [decide_eq_true hsame] at heq
        have HY := hide (HSm.out.1 hsame)
        clear hsame HSm
        go_wp2_with fail
        go_ret
        exact ⟨HB7.out, _, rfl, .inr (.inr (.inl ⟨HOk.out, HPk.out, HY.out, rfl⟩))⟩
      · rw [decide_eq_false hsame] at heq
        have HY : Hid (¬ (comeS (blkPuts s)).take 8 = (comeS (putL p (p.size / 8))).take 8) := fun h => hsame (HSm.out.2 h)
        clear hsame HSm
        go_wp2_with fail
        go_ret
        exact ⟨HB7.out, _, rfl, .inr (.inr (.inr ⟨HOk.out, HPk.out, HY.out, rfl⟩))⟩
    · have HB2 : Hid (Below w.heap.size w w2) := (HB1.out.alloc hz1 _).trans (hb2.mono (by rw [size_alloc1]; omega))
      have HN := hide hpn
      clear hb2 hpn
      go_wp2_with fail
      go_ret
      exact ⟨HB2.out, _, rfl, .inr (.inl ⟨HOk.out, HN.out, rfl⟩)⟩
  · have HB1 := hide hb1; have HNo := hide hno
    have hz1 := hb1.size
    clear hb1 hno HRd
    go_wp2_with (refine wpList_storeR size9 rfl _ _ rfl w1.heap.size rfl (wdZ []) rfl rfl (by rw [isRowB_alloc_at _ _ _ _ _ rfl]; rfl) _ (setRow_alloc_at _ _ _ _ _ rfl) ?_)
    go_ret
    exact ⟨HB1.out.alloc hz1 _, _, rfl, .inl ⟨HNo.out, rfl⟩⟩

set_option maxRecDepth 100000 in
set_option maxHeartbeats 400000 in
theorem cribAccept_any (s p : ByteArray) (w : World) (ht : Tab w) (hs : s.size ≤ maxLen) (hp : p.size ≤ maxLen) :
    Calls Tryz.prog 118 #[.string s, .string p] w fun e' w' => Below w.heap.size w w' ∧ ∃ n, e' = .returned (.int .i64 n) ∧ AccIs s p n := by
  have HP := hide (meanAccept_any s p w ht hs hp)
  clear ht
  go_enter Tryz.func118, Tryz.ntmps118
  go_wp2_with fail
  refine (unhide HP).mono ?_
  rintro e w1 ⟨hb, n, rfl, hn⟩
  have HB := hide hb; have HN := hide hn
  clear hb hn
  go_wp2_with fail
  go_ret
  exact ⟨HB.out, n, rfl, HN.out⟩
end Go.Proofs.YtmmflekajbeamaaGreatDoor
