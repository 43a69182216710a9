/-
  Plans, the document's answer: Accept.
  Plans: the puts of a plan's text (crib.Puts).
  Plans: a plan is done (plans.Do, crib.Do).
-/
import Derived.Test.YtmmflekajbeamaaDoorP22
import Derived.Test.YtmmflekajbeamaaDoorP23
import Derived.Test.YtmmflekajbeamaaDoorP25
import Derived.Test.YtmmflekajbeamaaDoorP15
import Derived.BigRegion
import Derived.Test.YtmmflekajbeamaaDoorP21
import Derived.Laws.CopyRow
namespace Go.Proofs.YtmmflekajbeamaaDoor
open Go.RowKit

theorem bya_inj {x y : List UInt8} : bya x = bya y ↔ x = y := by
  constructor
  · intro h
    have := congrArg (fun b : ByteArray => b.data.toList) h
    simpa [bya] using this
  · rintro rfl; rfl
set_option maxRecDepth 100000 in
set_option maxHeartbeats 2000000 in
theorem refAccept_any (s p : ByteArray) (w : World) (hs : s.size ≤ maxLen) (hp : p.size ≤ maxLen) :
    Calls Tryd.prog 54 #[.string s, .string p] w fun e' w' => Below w.heap.size w w' ∧ ∃ n, e' = .returned (.int .i64 n) ∧ AccIs s p n := by
  by_cases hok : blkOK s
  · have HIb := hide (isBlock_yes s w hok)
    have HPt := hide (refPuts_any p w hp)
    have HBw := hide (fun w' => byWords_ref s w' hok)
    have HOk := hide hok
    clear hok
    go_enter Tryd.func54, Tryd.ntmps54
    go_wp2_with fail
    refine (unhide HIb).mono ?_
    rintro e w' ⟨rfl, hw⟩
    obtain rfl := hw.symm
    go_wp2_with fail
    refine (unhide HPt).mono ?_
    rintro e w1 ⟨hb1, ⟨hpk, pv, rfl, hpo⟩ | ⟨hpn, rfl⟩⟩
    · have HB1 := hide hb1; have HPk := hide hpk; have HPo := hide hpo
      have hz1 := hb1.size
      clear hb1 hpk hpo HPt HIb
      go_wp2_with fail
      refine (unhide HBw _).mono ?_
      rintro e w2 ⟨hb2, v2, rfl, ho2⟩
      have hpo2 : w2.ownsRow w.heap.size 59 5 pv (putL p (p.size / 8)).length (putCs (putL p (p.size / 8))) := by rw [putL_len]; exact own_grow HPo.out hb2
      have HBp := hide (byPuts_ref w.heap.size pv (putL p (p.size / 8)) w2 hpo2 (putL_ok HPk.out) (by rw [putL_len]; have := HPk.out.2.1; omega))
      have HB2 := hide hb2; have HO2 := hide ho2
      have hz2 := hb2.size
      clear hb2 ho2 hpo2 HBw
      go_wp2_with fail
      refine (unhide HBp).mono ?_
      rintro e w3 ⟨hb3, v3, rfl, ho3⟩
      have HB3 : Hid (Below w.heap.size w w3) := (HB1.out.trans (HB2.out.mono hz1)).trans (hb3.mono (Nat.le_trans hz1 hz2))
      have hoX := own_grow HO2.out hb3
      obtain ⟨g2, c2, rfl, _, hg2⟩ := hoX.form (by decide)
      obtain ⟨g3, c3, rfl, _, hg3⟩ := ho3.form (by decide)
      have HX := hide (fun (i : Nat) (hi : i < 16) => (hoX.cellAt i (by omega)).trans (txCs_get (comeS (blkPuts s)) i (by rw [comeS_len]; exact hi)))
      have HY := hide (fun (i : Nat) (hi : i < 16) => (ho3.cellAt i (by omega)).trans (txCs_get (comeS (putL p (p.size / 8))) i (by rw [comeS_len]; exact hi)))
      clear hb3 ho3 hoX HBp HO2
      go_wp2_with fail
      go_loopw [10] (fun i wr => ∃ k : Nat, k ≤ 8 ∧ i = .int .i64 k ∧ Below w3.heap.size w3 wr ∧ Hid (∀ q, q < k → (comeS (blkPuts s)).getD q [] = (comeS (putL p (p.size / 8))).getD q [])) (fun i _ => 8 - (intOf i).toNat)
      case atStart => exact ⟨0, Nat.zero_le _, rfl, Below.refl _ _, fun q hq => by omega⟩
      case round =>
        obtain ⟨k, hk, rfl, hbl, HG⟩ := hrel
        have HBl := hide hbl
        by_cases hlt : k < 8
        · have hlt' : (k : Int) < 8 := by omega
          have hlt16 : (k : Int) < 16 := by omega
          have x0 := (below_cell' hbl g2 k hg2).trans (HX.out k (by omega))
          have y0 := (below_cell' hbl g3 k hg3).trans (HY.out k (by omega))
          by_cases he : (comeS (blkPuts s)).getD k [] = (comeS (putL p (p.size / 8))).getD k []
          · rw [← he] at y0
            have HG' : Hid (∀ q, q < k + 1 → (comeS (blkPuts s)).getD q [] = (comeS (putL p (p.size / 8))).getD q []) := fun q hq => by
              by_cases hqk : q = k
              · rw [hqk]; exact he
              · exact HG.out q (by omega)
            generalize bya ((comeS (blkPuts s)).getD k []) = D at *
            clear he HG hbl
            go_wp2_with fail
            go_quiet (fail)
            go_wp2_with fail
            exact ⟨⟨k + 1, by omega, by go_num, below_drewN HBl.out nq, HG'⟩, by simp [intOf]; omega⟩
          · have HN : Hid (¬ (comeS (blkPuts s)).take 8 = (comeS (putL p (p.size / 8))).take 8) := fun h => he ((take_eq_iff [] (by rw [comeS_len]; decide) (by rw [comeS_len]; decide)).1 h k hlt)
            have hne : ((bya ((comeS (blkPuts s)).getD k [])).toList == (bya ((comeS (putL p (p.size / 8))).getD k [])).toList) = false := by
              rw [ByteArray.toList_eq, ByteArray.toList_eq, bya_list, bya_list]
              exact beq_eq_false_iff_ne.2 he
            generalize bya ((comeS (blkPuts s)).getD k []) = D at *
            generalize bya ((comeS (putL p (p.size / 8))).getD k []) = D' at *
            clear he HG hbl
            go_wp2_with fail
            go_quiet (fail)
            go_wp2_with fail
            go_ret
            exact ⟨HB3.out.trans ((below_drewN HBl.out nq).mono HB3.out.size), _, rfl, .inr (.inr (.inr ⟨HOk.out, HPk.out, HN.out, rfl⟩))⟩
        · have hkn : k = 8 := by omega
          have hlt' : ¬ (k : Int) < 8 := by omega
          have HY' : Hid ((comeS (blkPuts s)).take 8 = (comeS (putL p (p.size / 8))).take 8) := (take_eq_iff [] (by rw [comeS_len]; decide) (by rw [comeS_len]; decide)).2 (fun i hi => HG.out i (by omega))
          clear hbl hkn
          go_wp2_with fail
          go_ret
          exact ⟨HB3.out.trans (HBl.out.mono HB3.out.size), _, rfl, .inr (.inr (.inl ⟨HOk.out, HPk.out, HY'.out, rfl⟩))⟩
    · have HB1 := hide hb1; have HN := hide hpn
      clear hb1 hpn HPt HIb
      go_wp2_with fail
      go_ret
      exact ⟨HB1.out, _, rfl, .inr (.inl ⟨HOk.out, HN.out, rfl⟩)⟩
  · have HIb := hide (isBlock_no s w hok hs)
    have HN := hide hok
    clear hok
    go_enter Tryd.func54, Tryd.ntmps54
    go_wp2_with fail
    refine (unhide HIb).mono ?_
    rintro e w' ⟨rfl, hw⟩
    obtain rfl := hw.symm
    go_wp2_with fail
    go_ret
    exact ⟨Below.refl _ _, _, rfl, .inl ⟨HN.out, rfl⟩⟩
end Go.Proofs.YtmmflekajbeamaaDoor

namespace Go.Proofs.YtmmflekajbeamaaDoor
open Go.RowKit

set_option maxRecDepth 100000 in
set_option maxHeartbeats 400000 in
theorem cribPuts_any (s : ByteArray) (w : World) (hs : s.size ≤ maxLen) :
    Calls Tryd.prog 31 #[.string s] w (PutsPost s w) := by
  have HP := hide (plansPuts_any s w hs)
  go_enter Tryd.func31, Tryd.ntmps31
  go_wp2_with fail
  refine (unhide HP).mono ?_
  rintro e w1 ⟨hb, ⟨hok, v, rfl, hown⟩ | ⟨hn, rfl⟩⟩
  · have HB := hide hb; have HO := hide hown; have HK := hide hok
    clear hb hown hok
    go_wp2_with fail
    go_ret2
    exact ⟨HB.out, .inl ⟨HK.out, _, rfl, HO.out⟩⟩
  · have HB := hide hb; have HN := hide hn
    clear hb hn
    go_wp2_with fail
    go_ret2
    exact ⟨HB.out, .inr ⟨HN.out, rfl⟩⟩

end Go.Proofs.YtmmflekajbeamaaDoor

namespace Go.Proofs.YtmmflekajbeamaaDoor
open Go.RowKit

theorem res_8 {fn : Func} {p u : Tmp} (h : fn.results = #[.cell p 31, .tmp u]) (tmps : Array Value) (w : World) (g : Nat) (z : List Int) (hz : z.length = 8)
    (hp : tmps.getD p undef = .pointer (some ⟨g, 0, none⟩)) (hg : RowI w g 31 z) (x : Value) (hu : tmps.getD u undef = x) :
    (results fn tmps).run Tryd.prog w = .ok (.tuple #[.agg (S z), x]) w := by
  rw [results_cell_tmp h, hp, hu]
  simp only [asAddr, Sem.run_pure, Result.andThen]
  rw [run_loadVar_row w g 31 31 (S z) (0, 0) _ hg Tryd.underlying31 rfl (by rw [size8, S_size, hz])]
theorem RowI.setRow8 {w : World} {g : Nat} {t : TypeId} {z : List Int} (h : RowI w g t z) (z' : List Int) : RowI (w.setRow g (S z')) g t z' := setRow_heap w g _ _ t (0, 0) h
theorem own_take' {w : World} {B : Nat} {v : Value} {n m : Nat} {xs : List Value} {e : TypeId} {k : Nat} (h : w.ownsRow B e k v n xs) (hn : n = m) : w.ownsRow B e k v m xs := hn ▸ h
theorem szI : (Tryd.prog.info? 3).map (·.size) = some 1 := by kernel_rfl
theorem S_app (a b : List Int) : (S (a ++ b)).toList = (S a).toList ++ (S b).toList := by simp [S]
set_option maxRecDepth 100000 in
theorem copy8 (w : World) (g g' : Nat) (z : List Int) (ty : TypeId) (h : RowI w g 119 (zr 16)) (h' : RowI w g' 31 z) (hz : z.length = 8) :
    (Builtin.copy_ #[36, 36] ty #[.slice (some ⟨g, 0, none⟩) 16 16, .slice (some ⟨g', 0, none⟩) 8 8]).run Tryd.prog w = .ok (.int .i64 8) (w.setRow g (S (begD z))) := by
  have hl : (S z).toList.length = 8 := by simp [S, hz]
  have := run_copy_row (P := Tryd.prog) w 36 36 ty 3 g 0 16 16 ⟨g', 0, none⟩ 8 8 (S (zr 16)) 119 (S z).toList Tryd.underlying36 szI h (by rw [hl]; rfl) (fun j v hj => by
      have hlt : j < 8 := by have := (List.getElem?_eq_some_iff.1 hj).1; omega
      have h1 := h'.cell j (by omega)
      rw [Array.getElem?_toList, S_get z j (by omega)] at hj
      cases hj
      have ea : (⟨g', 0, none⟩ : Addr).add j = ⟨g', j, none⟩ := by
        unfold Addr.add
        split
        · rename_i hj0; rw [hj0]
        · simp
      rw [ea]
      exact h1) (by rw [hl, S_size, zr_len]; decide) (fun v hv => by
      have := S_one z
      rw [Array.all_eq_true_iff_forall_mem] at this
      exact this v (by simpa using hv))
  rw [this, hl]
  congr 2
  rw [show begD z = z ++ zr 8 from rfl]
  apply Array.toList_inj.1
  have e : (S (zr 16)).toList.drop 8 = (S (zr 8)).toList := by simp [S, zr]
  rw [S_app, Nat.zero_add, e]
  simp
/-- The words of a machine are in their range. -/
def okRM (regs mem : List Int) : Prop := allW (gz regs) 8 = true ∧ allW (gz mem) 128 = true
theorem allW_WL {z : List Int} {n : Nat} (h : allW (gz z) n = true) (hl : z.length = n) : WL n z := by
  refine ⟨hl, fun x hx => ?_⟩
  obtain ⟨i, hi⟩ := List.getElem?_of_mem hx
  unfold allW at h
  have := List.all_eq_true.1 h i (List.mem_range.2 (by have := (List.getElem?_eq_some_iff.1 hi).1; omega))
  unfold gz at this
  rw [List.getD_eq_getElem?_getD, hi] at this
  exact (isW_iff _).1 this
/-- What Do leaves. -/
def DoPost (p : ByteArray) (regs mem : List Int) (w : World) (e' : Ending) (w' : World) : Prop :=
  Below w.heap.size w w' ∧ ((¬ okRM regs mem ∧ e' = .returned (.tuple #[.agg (S (zr 8)), .int .i64 8])) ∨ (okRM regs mem ∧ ¬ putsOK p ∧ e' = .returned (.tuple #[.agg (S (zr 8)), .int .i64 11])) ∨ (okRM regs mem ∧ putsOK p ∧ e' = .returned (.tuple #[.agg (S ((doL mem (putL p (p.size / 8)) (begD regs)).take 8)), .int .i64 0])))

set_option maxRecDepth 100000 in
set_option maxHeartbeats 2000000 in
theorem plansDo_any (p : ByteArray) (regs mem : List Int) (w : World) (hr : regs.length = 8) (hm : mem.length = 128) (hp : p.size ≤ maxLen) :
    Calls Tryd.prog 87 #[.string p, .agg (S regs), .agg (S mem)] w (DoPost p regs mem w) := by
  have z8 := zero8; have z16 := zero16
  obtain ⟨W0, hW0⟩ : ∃ W0, W0 = ((w.alloc (.cells (S regs) 31)).alloc (.cells (S mem) 32)).alloc (.cells (S (zr 8)) 31) := ⟨_, rfl⟩
  have HW := hide hW0
  have hb0 : Below w.heap.size w W0 := by rw [hW0]; exact below3 w _ _ _
  have hz0 : W0.heap.size = w.heap.size + 1 + 1 + 1 := by rw [hW0, size_alloc1, size_alloc1, size_alloc1]
  have r0 : RowI W0 w.heap.size 31 regs := by
    unfold RowI; rw [hW0, Below.heap_alloc _ _ _ (by rw [size_alloc1, size_alloc1]; omega), Below.heap_alloc _ _ _ (by rw [size_alloc1]; omega), _root_.Go.heap_alloc_new]
  have r1 : RowI W0 (w.heap.size + 1) 32 mem := by
    unfold RowI
    rw [hW0, Below.heap_alloc _ _ _ (by rw [size_alloc1, size_alloc1]; omega)]
    have := _root_.Go.heap_alloc_new (w.alloc (.cells (S regs) 31)) (.cells (S mem) 32)
    rw [size_alloc1] at this
    exact this
  have r2 : RowI W0 (w.heap.size + 1 + 1) 31 (zr 8) := by
    unfold RowI
    rw [hW0]
    have := _root_.Go.heap_alloc_new ((w.alloc (.cells (S regs) 31)).alloc (.cells (S mem) 32)) (.cells (S (zr 8)) 31)
    rw [size_alloc1, size_alloc1] at this
    exact this
  have H1 := hide (areWords_any w.heap.size 0 8 (gz regs) W0 (by omega) (fun i hi => by rw [Nat.zero_add]; exact r0.cell i (by omega)))
  have H2 := hide (areWords_any (w.heap.size + 1) 0 128 (gz mem) W0 (by omega) (fun i hi => by rw [Nat.zero_add]; exact r1.cell i (by omega)))
  have HR0 := hide r0; have HR1 := hide r1; have HR2 := hide r2; have HB0 := hide hb0
  have HBad : Hid (∀ w' n, Below w.heap.size w w' → RowI w' (w.heap.size + 1 + 1) 31 (zr 8) → ((n = 8 ∧ ¬ okRM regs mem) ∨ (n = 11 ∧ okRM regs mem ∧ ¬ putsOK p)) → DoPost p regs mem w (.returned (.tuple #[.agg (S (zr 8)), .int .i64 n])) w') := fun w' n hb _ hn => by
    rcases hn with ⟨rfl, h⟩ | ⟨rfl, h1, h2⟩
    · exact ⟨hb, .inl ⟨h, rfl⟩⟩
    · exact ⟨hb, .inr (.inl ⟨h1, h2, rfl⟩)⟩
  have HPt := hide (plansPuts_any p W0 hp)
  clear r0 r1 r2 hb0 hW0
  cases hq1 : allW (gz regs) 8
  · rw [hq1] at H1
    have HN : Hid (¬ okRM regs mem) := fun h => by have := h.1; rw [hq1] at this; cases this
    clear hq1 H2
    go_enter Tryd.func87, Tryd.ntmps87
    go_wp2_with fail
    rw [← HW.out]
    refine (unhide H1).mono ?_
    rintro e w' ⟨rfl, hw⟩
    obtain rfl := hw.symm
    go_wp2_with (refine wpList_storeR size8 rfl _ _ rfl (w.heap.size + 1 + 1) rfl (zr 8) rfl (zr_len 8) (HR2.out.isRow 8 (zr_len 8)) _ rfl ?_)
    exact bodyPost_ret (v := .tuple #[.agg (S (zr 8)), .int .i64 8]) (res_8 Tryd.results87 _ _ (w.heap.size + 1 + 1) (zr 8) (zr_len 8) rfl (HR2.out.setRow8 (zr 8)) _ rfl) rfl (HBad.out _ 8 (below_setRow HB0.out (by omega) _) (HR2.out.setRow8 (zr 8)) (.inl ⟨rfl, HN.out⟩))
  · rw [hq1] at H1
    cases hq2 : allW (gz mem) 128
    · rw [hq2] at H2
      have HN : Hid (¬ okRM regs mem) := fun h => by have := h.2; rw [hq2] at this; cases this
      clear hq1 hq2
      go_enter Tryd.func87, Tryd.ntmps87
      go_wp2_with fail
      rw [← HW.out]
      refine (unhide H1).mono ?_
      rintro e w' ⟨rfl, hw⟩
      obtain rfl := hw.symm
      go_wp2_with fail
      refine (unhide H2).mono ?_
      rintro e w' ⟨rfl, hw⟩
      obtain rfl := hw.symm
      go_wp2_with (refine wpList_storeR size8 rfl _ _ rfl (w.heap.size + 1 + 1) rfl (zr 8) rfl (zr_len 8) (HR2.out.isRow 8 (zr_len 8)) _ rfl ?_)
      exact bodyPost_ret (v := .tuple #[.agg (S (zr 8)), .int .i64 8]) (res_8 Tryd.results87 _ _ (w.heap.size + 1 + 1) (zr 8) (zr_len 8) rfl (HR2.out.setRow8 (zr 8)) _ rfl) rfl (HBad.out _ 8 (below_setRow HB0.out (by omega) _) (HR2.out.setRow8 (zr 8)) (.inl ⟨rfl, HN.out⟩))
    · rw [hq2] at H2
      have HOK : Hid (okRM regs mem) := ⟨hq1, hq2⟩
      have hWr := allW_WL hq1 hr
      have hWm := allW_WL hq2 hm
      clear hq1 hq2
      go_enter Tryd.func87, Tryd.ntmps87
      go_wp2_with fail
      rw [← HW.out]
      refine (unhide H1).mono ?_
      rintro e w' ⟨rfl, hw⟩
      obtain rfl := hw.symm
      go_wp2_with fail
      refine (unhide H2).mono ?_
      rintro e w' ⟨rfl, hw⟩
      obtain rfl := hw.symm
      go_wp2_with fail
      refine (unhide HPt).mono ?_
      rintro e w1 ⟨hb1, ⟨hpk, pv, rfl, hpo⟩ | ⟨hpn, rfl⟩⟩
      · have HB1 : Hid (Below w.heap.size w w1) := HB0.out.trans (hb1.mono HB0.out.size)
        have hz1 := hb1.size
        have HR0' := hide (HR0.out.keep (hb1.block _ (by omega)))
        have HR1' := hide (HR1.out.keep (hb1.block _ (by omega)))
        have HR2' := hide (HR2.out.keep (hb1.block _ (by omega)))
        have HPk := hide hpk; have HPo := hide (own_take' hpo (putL_len p _).symm)
        obtain ⟨pa, pc, rfl⟩ := owns_len hpo
        have hln : (putL p (p.size / 8)).length = p.size / 8 := putL_len p _
        have hpl10 : p.size / 8 ≤ 10 := by have := hpk.2.1; omega
        clear hb1 hpk hpo HPt H1 H2 HR0 HR1 HR2
        have r16 : RowI (w1.alloc (.cells (S (zr 16)) 119)) w1.heap.size 119 (zr 16) := _root_.Go.heap_alloc_new w1 _
        have hcp := fun ty => copy8 ((w1.alloc (.cells (S (zr 16)) 119)).drew) w1.heap.size w.heap.size regs ty (r16.keep rfl) (HR0'.out.keep (Below.heap_alloc w1 _ _ HR0'.out.lt)) hr
        have hrow : (w1.alloc (.cells (S (zr 16)) 119)).drew.setRow w1.heap.size (S (begD regs)) = (w1.alloc (.cells (S (begD regs)) 119)).drew := by rw [setRow_drew, setRow_alloc_at _ _ _ _ _ rfl]
        rw [hrow] at hcp
        clear hrow r16
        have HLp : Hid (RowI ((w1.alloc (.cells (S (begD regs)) 119)).drew) w1.heap.size 119 (begD regs)) := _root_.Go.heap_alloc_new w1 _
        have HBp : Hid (Below w1.heap.size w1 ((w1.alloc (.cells (S (begD regs)) 119)).drew)) := ((Below.refl _ _).alloc (Nat.le_refl _) _).drew
        go_wp2_with fail
        refine still_tail 2 (by kernel_rfl) (by kernel_rfl) ?_
        simp only [List.take_succ_cons, List.take_zero, List.drop_succ_cons, List.drop_zero]
        repeat still_step
        refine wpStill_nil ?_
        go_wp2_with fail
        clear hcp
        go_loopw [36] (fun i wr => ∃ k : Nat, k ≤ p.size / 8 ∧ i = .int .i64 k ∧ Hid (RowI wr w1.heap.size 119 (((putL p (p.size / 8)).take k).foldl (stD mem) (begD regs)) ∧ Below w1.heap.size w1 wr)) (fun i _ => p.size / 8 - (intOf i).toNat)
        case atStart => exact ⟨0, Nat.zero_le _, rfl, HLp.out, HBp.out⟩
        case round =>
          obtain ⟨k, hk, rfl, HRl⟩ := hrel
          have hwl := WL.fold hWm (putL_ok HPk.out) k (begD regs) (by omega) (WL.beg hWr)
          by_cases hlt : k < p.size / 8
          · have hlt' : (k : Int) < ((p.size / 8 : Nat) : Int) := by omega
            have hpk : (putL p (p.size / 8))[k]? = some ((putL p (p.size / 8))[k]'(by omega)) := List.getElem?_eq_getElem (by omega)
            have hmem := List.mem_of_getElem? hpk
            obtain ⟨hok, hkk⟩ := putL_ok HPk.out _ hmem
            have HStp : Hid (((putL p (p.size / 8)).take (k + 1)).foldl (stD mem) (begD regs) = (((putL p (p.size / 8)).take k).foldl (stD mem) (begD regs)).set ((putL p (p.size / 8))[k]'(by omega)).d (vD (((putL p (p.size / 8)).take k).foldl (stD mem) (begD regs)) mem ((putL p (p.size / 8))[k]'(by omega)))) := foldl_take_succ _ _ _ _ _ hpk
            obtain ⟨hrl, hbl⟩ := HRl.out
            have hPo := own_take' HPo.out rfl
            obtain ⟨g, cap, hform, _, hgl⟩ := HPo.out.form (by omega)
            obtain ⟨x0, x1, x2, x3, x4⟩ := put_cells (own_grow (own_take' (hform ▸ HPo.out) rfl) hbl) k _ hpk
            have hform' : pa = some ⟨g, 0, none⟩ := by injection hform
            subst hform'
            have hrm : RowI wr (w.heap.size + 1) 32 mem := HR1'.out.keep (hbl.block _ HR1'.out.lt)
            have hm1 : w.heap.size + 1 < w1.heap.size := HR1'.out.lt
            have hwz : w1.heap.size < wr.heap.size := hrl.lt
            have HV := hide (fun w' => plValue_any ((putL p (p.size / 8))[k]'(by omega)) (((putL p (p.size / 8)).take k).foldl (stD mem) (begD regs)) mem w' hok hwl hWm)
            generalize (putL p (p.size / 8))[k]'(by omega) = q at *
            have hd16 := hok.1
            have hd16' : (q.d : Int) < 16 := by omega
            generalize hL : ((putL p (p.size / 8)).take k).foldl (stD mem) (begD regs) = L at *
            clear hL
            have hFin : ∀ w2 v, Below wr.heap.size wr w2 → v = vD L mem q → RowI w2 w1.heap.size 119 L ∧ (RowI (w2.setCell ⟨w1.heap.size, q.d, none⟩ (.int .i64 v)) w1.heap.size 119 (((putL p (p.size / 8)).take (k + 1)).foldl (stD mem) (begD regs)) ∧ Below w1.heap.size w1 (w2.setCell ⟨w1.heap.size, q.d, none⟩ (.int .i64 v))) := fun w2 v hb hv => by
              have hr2 := hrl.keep (hb.block _ hwz)
              rw [HStp.out, ← hv]
              exact ⟨hr2, hr2.set _ _, (hbl.trans (hb.mono (Nat.le_of_lt hwz))).setCell (Nat.le_refl _) _⟩
            have HFin := hide hFin
            have hs16 := hide (fun w' (hr : isRowB w' w1.heap.size 16 = true) => load_rowD (P := Tryd.prog) (ty := 119) Tryd.underlying119 rfl size16 w' w1.heap.size hr)
            have hs128 := hide (fun w' (hr : isRowB w' (w.heap.size + 1) 128 = true) => load_rowD (P := Tryd.prog) (ty := 32) Tryd.underlying32 rfl size128 w' (w.heap.size + 1) hr)
            have rI := hrl.isRow 16 hwl.1
            have rD := hrl.rowD
            have rI2 := hrm.isRow 128 hm
            have rD2 := hrm.rowD
            have HRL := hide hrl; have HRM := hide hrm
            have HLL := hide hwl.1
            obtain ⟨pk, pd, pa', pb, pk'⟩ := q
            simp only [putV] at x0 x1 x2 x3 x4 hd16 hd16' HV HFin
            clear hFin hrl hrm hbl hpk hmem hok hkk hwl hPo hform HStp HPk HPo HRl hWr hWm
            go_wp2_with fail
            have e0 : ∀ (o : Obj) j x, o = .cells #[.int .i64 (pk : Int), .int .i64 (pd : Int), .int .i64 (pa' : Int), .int .i64 (pb : Int), .int .i64 (pk' : Int)] 59 → #[Value.int .i64 (pk : Int), .int .i64 (pd : Int), .int .i64 (pa' : Int), .int .i64 (pb : Int), .int .i64 (pk' : Int)][j]? = some x → (wr.alloc o).cell? ⟨wr.heap.size, j, none⟩ = some x := fun o j x ho hx => by
              rw [ho, World.cell?_alloc_at (hn := rfl)]; exact hx
            refine held_tail 5 1 (fun w' => w'.cell? ⟨wr.heap.size, 0, none⟩ = some (.int .i64 (pk : Int)) ∧ w'.cell? ⟨wr.heap.size, 1, none⟩ = some (.int .i64 (pd : Int)) ∧ w'.cell? ⟨wr.heap.size, 2, none⟩ = some (.int .i64 (pa' : Int)) ∧ w'.cell? ⟨wr.heap.size, 3, none⟩ = some (.int .i64 (pb : Int)) ∧ w'.cell? ⟨wr.heap.size, 4, none⟩ = some (.int .i64 (pk' : Int)) ∧ (isRowB w' w1.heap.size 16 = true ∧ rowD w' w1.heap.size = S L) ∧ (isRowB w' (w.heap.size + 1) 128 = true ∧ rowD w' (w.heap.size + 1) = S mem)) (by kernel_rfl) (by kernel_rfl) (fun d _ _ _ _ h => by cases d <;> exact h) ⟨e0 _ 0 _ rfl rfl, e0 _ 1 _ rfl rfl, e0 _ 2 _ rfl rfl, e0 _ 3 _ rfl rfl, e0 _ 4 _ rfl rfl, ⟨(isRowB_alloc_past _ _ _ _ hwz).trans rI, (rowD_alloc_past _ _ _ hwz).trans rD⟩, ⟨(isRowB_alloc_past _ _ _ _ (by omega)).trans rI2, (rowD_alloc_past _ _ _ (by omega)).trans rD2⟩⟩ ?_
            simp only [List.take_succ_cons, List.take_zero, List.drop_succ_cons, List.drop_zero]
            iterate 3
              refine wpTake_step ?_ rfl ?_ ?_
              rotate_left
              · rintro w' ⟨d0, d1, d2, d3, d4, d5, d6⟩
                go_simp
                rfl
              go_simp
            refine wpTake_step (.agg (S L)) rfl ?_ ?_
            · rintro w' ⟨d0, d1, d2, d3, d4, ⟨d5, d6⟩, d7⟩
              have hl := hs16.out w' d5
              rw [d6] at hl
              clear d0 d1 d2 d3 d4 d5 d6 d7
              simp only [execOp, Sem.run_bind]
              show Result.andThen (Sem.run Tryd.prog (Instr.loadAt 119 (.pointer (some ⟨w1.heap.size, 0, none⟩))) w') _ = _
              rw [hl]
              rfl
            go_simp
            refine wpTake_step (.agg (S mem)) rfl ?_ ?_
            · rintro w' ⟨d0, d1, d2, d3, d4, d7, ⟨d5, d6⟩⟩
              have hl := hs128.out w' d5
              rw [d6] at hl
              clear d0 d1 d2 d3 d4 d5 d6 d7
              simp only [execOp, Sem.run_bind]
              show Result.andThen (Sem.run Tryd.prog (Instr.loadAt 32 (.pointer (some ⟨w.heap.size + 1, 0, none⟩))) w') _ = _
              rw [hl]
              rfl
            go_simp
            refine wpTake_nil ?_
            refine wpTail_step rfl (fun K hK => ?_)
            go_simp
            refine (unhide HV _).mono ?_
            rintro e w2 ⟨rfl, hb2⟩
            have hb2' : Below wr.heap.size wr w2 := (((Below.refl _ _).alloc (Nat.le_refl _) _).drew).trans (hb2.mono (by show wr.heap.size ≤ (wr.alloc _).heap.size; rw [size_alloc1]; omega))
            have hbx : ∀ j x, #[Value.int .i64 (pk : Int), .int .i64 (pd : Int), .int .i64 (pa' : Int), .int .i64 (pb : Int), .int .i64 (pk' : Int)][j]? = some x → w2.cell? ⟨wr.heap.size, j, none⟩ = some x := fun j x hx =>
              (below_cell' hb2 _ _ (by show wr.heap.size < (wr.alloc _).heap.size; rw [size_alloc1]; omega)).trans (e0 _ j x rfl hx)
            obtain ⟨r16, HE⟩ := HFin.out w2 _ hb2' rfl
            have cc := r16.cell pd (by have := HLL.out; omega)
            have ff := r16.frozen pd
            have hrm2 := HRM.out.keep (hb2'.block _ HRM.out.lt)
            refine hK _ _ ⟨hbx 0 _ rfl, hbx 1 _ rfl, hbx 2 _ rfl, hbx 3 _ rfl, hbx 4 _ rfl, ⟨r16.isRow 16 HLL.out, r16.rowD⟩, ⟨hrm2.isRow 128 hm, hrm2.rowD⟩⟩ ?_
            have HEn := hide HE
            clear HE r16 hbx hK K e0 rI rD rI2 rD2 hs16 hs128 HV HFin hb2 hb2' hrm2
            unfold wpTailS
            go_wp2_with fail
            exact ⟨⟨k + 1, by omega, by go_num, HEn.out⟩, by simp [intOf]; omega⟩
          · have hkn : k = p.size / 8 := by omega
            have hlt' : ¬ (k : Int) < ((p.size / 8 : Nat) : Int) := by omega
            obtain ⟨h7, hbl⟩ := HRl.out
            rw [List.take_of_length_le (by omega)] at h7 hwl
            have hDo : Hid ((putL p (p.size / 8)).foldl (stD mem) (begD regs) = doL mem (putL p (p.size / 8)) (begD regs)) := rfl
            generalize (putL p (p.size / 8)).foldl (stD mem) (begD regs) = L at *
            have ln := hwl.1
            have y0 := h7.cell 0 (by omega); have y1 := h7.cell 1 (by omega); have y2 := h7.cell 2 (by omega); have y3 := h7.cell 3 (by omega)
            have y4 := h7.cell 4 (by omega); have y5 := h7.cell 5 (by omega); have y6 := h7.cell 6 (by omega); have y7 := h7.cell 7 (by omega)
            have h6 : RowI wr (w.heap.size + 1 + 1) 31 (zr 8) := HR2'.out.keep (hbl.block _ HR2'.out.lt)
            have rI := h6.isRow 8 (zr_len 8)
            have a8 := arr8
            have HEq : Hid ([gz L 0, gz L 1, gz L 2, gz L 3, gz L 4, gz L 5, gz L 6, gz L 7] = L.take 8) := by
              unfold Hid
              match L, ln with
              | [n0, n1, n2, n3, n4, n5, n6, n7, n8, n9, n10, n11, n12, n13, n14, n15], _ => rfl
            have H6 := hide h6
            have HBf := hide (HB1.out.trans (hbl.mono HB1.out.size))
            clear h6 h7 hbl hwl hkn HRl
            go_wp2_with (refine wpList_storeR size8 rfl _ _ rfl (w.heap.size + 1 + 1) rfl [gz L 0, gz L 1, gz L 2, gz L 3, gz L 4, gz L 5, gz L 6, gz L 7] rfl rfl rI _ rfl ?_)
            refine bodyPost_ret (v := .tuple #[.agg (S [gz L 0, gz L 1, gz L 2, gz L 3, gz L 4, gz L 5, gz L 6, gz L 7]), .int .i64 0]) (res_8 Tryd.results87 _ _ (w.heap.size + 1 + 1) _ rfl rfl (H6.out.setRow8 _) _ rfl) rfl ⟨below_setRow HBf.out (by omega) _, .inr (.inr ⟨HOK.out, HPk.out, ?_⟩)⟩
            rw [HEq.out, hDo.out]
      · have HB1 : Hid (Below w.heap.size w w1) := HB0.out.trans (hb1.mono HB0.out.size)
        have hz1 := hb1.size
        have HR2' := hide (HR2.out.keep (hb1.block _ (by omega)))
        have HN := hide hpn
        clear hb1 hpn HPt H1 H2
        go_wp2_with (refine wpList_storeR size8 rfl _ _ rfl (w.heap.size + 1 + 1) rfl (zr 8) rfl (zr_len 8) (HR2'.out.isRow 8 (zr_len 8)) _ rfl ?_)
        exact bodyPost_ret (v := .tuple #[.agg (S (zr 8)), .int .i64 11]) (res_8 Tryd.results87 _ _ (w.heap.size + 1 + 1) (zr 8) (zr_len 8) rfl (HR2'.out.setRow8 (zr 8)) _ rfl) rfl (HBad.out _ 11 (below_setRow HB1.out (by omega) _) (HR2'.out.setRow8 (zr 8)) (.inr ⟨rfl, HOK.out, HN.out⟩))
end Go.Proofs.YtmmflekajbeamaaDoor
