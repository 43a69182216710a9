/-
  Translates: the program's own Translate (translator.Translate, crib.Translate).
  The engine: a plan for a block (prepare, planFor).
  The engine's run, as mathematics: steps of a machine; a block is as many steps as it has words.
-/
import Derived.Test.YtmmflekajbeamaaGreatDoorF27
import Derived.Test.YtmmflekajbeamaaGreatDoorF25
import Derived.Test.YtmmflekajbeamaaGreatDoorF12
namespace Go.Proofs.YtmmflekajbeamaaGreatDoor
open Go.RowKit

theorem withoutIdle_any (B : Nat) (pa : Option Addr) (pc : Nat) (ps : List PutN) (w : World) (ho : w.ownsRow B 123 5 (.slice pa ps.length pc) ps.length (putCs ps)) (hl : ps.length ≤ 8) (hw : ∀ p ∈ ps, okB p) :
    Calls Tryz.prog 214 #[.slice pa ps.length pc] w fun e' w' => Below w.heap.size w w' ∧ ∃ v, e' = .returned v ∧ w'.ownsRow w.heap.size 123 5 v (idle ps).length (putCs (idle ps)) :=
  callsIn_wide.1 (withoutIdle_in B pa pc ps w ho hl hw)

set_option maxRecDepth 100000 in
set_option maxHeartbeats 2000000 in
theorem trTranslate_any (s : ByteArray) (w : World) (ht : Tab w) (hs : s.size ≤ maxLen) :
    Calls Tryz.prog 175 #[.string s] w (TrPost s w) := by
  have z9 := zero9
  have HRd := hide (blkRead_any s w ht hs)
  have HTb := hide ht
  have hpos := ht.pos
  clear ht
  go_enter Tryz.func175, Tryz.ntmps175
  go_wp2_with fail
  refine (unhide HRd).mono ?_
  rintro e w1 ⟨hb1, ⟨hok, rfl⟩ | ⟨hno, rfl⟩⟩
  · have HB1 := hide hb1; have HOk := hide hok
    have hz1 := hb1.size
    have h8 : s.size / 4 ≤ 8 := by have := hok.2.1; omega
    have hzl := wdZ_len (ws := blkL s (s.size / 4)) (by rw [blkL_len]; exact h8)
    obtain ⟨W3, hW3⟩ : ∃ W3, W3 = w1.alloc (.cells (S (wdZ (blkL s (s.size / 4)))) 187) := ⟨_, rfl⟩
    have HW := hide hW3
    have r3 : RowI W3 w1.heap.size 187 (wdZ (blkL s (s.size / 4))) := by unfold RowI; rw [hW3, _root_.Go.heap_alloc_new]
    have h3b : Below w.heap.size w W3 := by rw [hW3]; exact hb1.alloc hz1 _
    have H3B := hide h3b
    have rI := r3.isRow 9 hzl
    have rD := r3.rowD
    have h3z : w.heap.size ≤ W3.heap.size := h3b.size
    have HPl := hide (plain_list (blkL s (s.size / 4)) W3 (HTb.out.below hpos h3b) (by rw [blkL_len]; exact h8) (blkL_bd s _))
    clear hb1 hok HRd hW3 h3b r3
    go_wp2_with (first | (refine wpList_storeR size9 rfl _ _ rfl w1.heap.size rfl (wdZ (blkL s (s.size / 4))) rfl hzl (by rw [isRowB_alloc_at _ _ _ _ _ rfl]; rfl) _ (setRow_alloc_at _ _ _ _ _ rfl) ?_) | (refine wpList_loadR rfl Tryz.underlying187 size9 rfl _ rfl w1.heap.size rfl (by rw [← HW.out]; exact rI) (S (wdZ (blkL s (s.size / 4)))) (by rw [← HW.out]; exact rD) ?_))
    rw [← HW.out]
    refine (unhide HPl).mono ?_
    rintro e w4 ⟨hb4, fv, rfl, hfo⟩
    rw [plN_nPl HOk.out, blkL_take s (nPl_le s)] at hfo
    have HOf := hide (ofWords_any _ fv (blkL s (nPl s)) w4 (own_take hfo (blkL_len s _).symm) (by rw [blkL_len]; exact Nat.le_trans (nPl_le s) h8))
    have HB4 : Hid (Below w.heap.size w w4) := H3B.out.trans (hb4.mono h3z)
    have hz4 := hb4.size
    clear hb4 hfo HPl rI rD
    go_wp2_with fail
    refine (unhide HOf).mono ?_
    rintro e w5 ⟨hb5, pv1, rfl, hpo1⟩
    rw [pwL_blk, blkL_len, ← nPl_len] at hpo1
    have hn8 : (blkPuts s).length ≤ 8 := by rw [nPl_len]; exact Nat.le_trans (nPl_le s) h8
    have HK := hide (withKnown_any _ pv1 (blkPuts s) w5 hpo1 hn8 (blkPuts_okB HOk.out))
    have HB5 : Hid (Below w.heap.size w w5) := HB4.out.trans (hb5.mono (by omega))
    have hz5 := hb5.size
    clear hb5 hpo1 HOf
    go_wp2_with fail
    refine (unhide HK).mono ?_
    rintro e w6 ⟨hb6, pv2, rfl, hpo2⟩
    obtain ⟨hkk, hkl⟩ := wKn_ok (blkPuts_okB HOk.out)
    obtain ⟨pa, pc, hpv2⟩ := owns_len hpo2
    subst hpv2
    have HWi := hide (withoutIdle_any _ pa pc (wKn (blkPuts s)) w6 hpo2 (by rw [hkl]; exact hn8) hkk)
    have HB6 : Hid (Below w.heap.size w w6) := HB5.out.trans (hb6.mono (by omega))
    have hz6 := hb6.size
    clear hb6 hpo2 HK hkk hkl hn8
    go_wp2_with fail
    refine (unhide HWi).mono ?_
    rintro e w7 ⟨hb7, pv3, rfl, hpo3⟩
    obtain ⟨hoo, hol⟩ := ownP_ok HOk.out
    have HTx := hide (planText_any _ pv3 (ownP s) w7 hpo3 (Nat.le_trans hol (Nat.le_trans (nPl_le s) h8)) hoo)
    have HB7 : Hid (Below w.heap.size w w7) := HB6.out.trans (hb7.mono (by omega))
    have hz7 := hb7.size
    clear hb7 hpo3 HWi hoo hol
    go_wp2_with fail
    refine (unhide HTx).mono ?_
    rintro e w8 ⟨rfl, hb8⟩
    have HB8 : Hid (Below w.heap.size w w8) := HB7.out.trans (hb8.mono (by omega))
    clear hb8 HTx
    go_wp2_with fail
    go_ret2
    exact ⟨HB8.out, .inl ⟨HOk.out, rfl⟩⟩
  · have HB1 := hide hb1; have HNo := hide hno
    have hz1 := hb1.size
    clear hb1 hno HRd
    go_wp2_with (refine wpList_storeR size9 rfl _ _ rfl w1.heap.size rfl (wdZ []) rfl rfl (by rw [isRowB_alloc_at _ _ _ _ _ rfl]; rfl) _ (setRow_alloc_at _ _ _ _ _ rfl) ?_)
    go_ret2
    exact ⟨HB1.out.alloc hz1 _, .inr ⟨HNo.out, rfl⟩⟩

end Go.Proofs.YtmmflekajbeamaaGreatDoor

namespace Go.Proofs.YtmmflekajbeamaaGreatDoor
open Go.RowKit Go.Maps Go.WideMaps

theorem RnOK.lay {g : EgN} {k : Nat} (h : RnOK g k) (i : Nat) (ws : List Nat) (p : List UInt8) : RnOK (layG g i ws p) (k + 1) := by
  refine ⟨fun j hj => ?_, fun j hj => Nat.le_succ_of_le (h.2 j hj)⟩
  show (upd g.b i (layB (g.b i) ws p) j).length ≤ k + 1
  by_cases e : j = i
  · subst e; rw [upd_at]; have h1 := layB_len (g.b j) ws p; have := h.1 j hj; omega
  · rw [upd_ne _ _ _ _ e]; exact Nat.le_succ_of_le (h.1 j hj)
/-- Translate, of a block's words. -/
theorem trans_ws (ws : List Nat) (w : World) (ht : Tab w) (hb : blkOK (bya (wdsT ws))) : Calls Tryz.prog 175 #[.string (bya (wdsT ws))] w fun e' w' => e' = .returned (.tuple #[.string (bya (ownT ws)), .int .i64 0]) ∧ Below w.heap.size w w' := by
  refine (trTranslate_any (bya (wdsT ws)) w ht (by have := hb.2.1; unfold maxLen; omega)).mono ?_
  rintro e w' ⟨hbl, ⟨_, rfl⟩ | ⟨hn, _⟩⟩
  · exact ⟨rfl, hbl⟩
  · exact absurd hb hn
theorem EgAt.ct' {E D : Nat} {g : EgN} {m v : Nat → Value} {w : World} (h : EgAt E D g m v w) (i : Nat) (hi : i < 4) (n : Nat) (hn : g.c i = n) (W : World) (hW : W = w.setCell ⟨E, 141 + i, none⟩ (.int .i64 ((n : Int) + 1))) : EgAt E D (ctE g i) m v W ∧ Chg (eHas E m v) w W := by
  subst hn
  refine ⟨?_, ?_⟩
  · rw [hW]
    refine h.set (141 + i) (.inr (by omega)) (ctE g i) rfl rfl (scV_ct D g i) _ ?_
    unfold scV ctE
    rw [if_neg (by omega), if_neg (by omega), if_neg (by omega), if_pos (by omega), Nat.add_sub_cancel_left]
    simp only [upd_at]
    rfl
  · rw [hW]
    exact (Chg.set w E _ _).weak (fun _ q => .inl (.inl q))
theorem GPost.from {E D : Nat} {m v : Nat → Value} {w w1 w2 : World} {g' : EgN} (c : Chg (eHas E m v) w w1) (h : GPost E D m v w1 g' w2) : GPost E D m v w g' w2 := by
  obtain ⟨m2, v2, e2, c2, o2⟩ := h
  exact ⟨m2, v2, e2, c.trans (fun x q => .inl q) c2, fun x q => (o2 x q).imp id (fun a => Nat.le_trans c.size a)⟩
theorem GPost.seq {E D : Nat} {m v m1 v1 : Nat → Value} {w w1 w2 : World} {g' : EgN} (c : Chg (eHas E m v) w w1) (o : ∀ x, eHas E m1 v1 x → eHas E m v x ∨ w.heap.size ≤ x) (h : GPost E D m1 v1 w1 g' w2) : GPost E D m v w g' w2 := by
  obtain ⟨m2, v2, e2, c2, o2⟩ := h
  refine ⟨m2, v2, e2, c.trans o c2, fun x q => ?_⟩
  rcases o2 x q with a | a
  · exact o x a
  · exact .inr (Nat.le_trans c.size a)
theorem Tab.chg {E D : Nat} {g : EgN} {m v : Nat → Value} {w w' : World} (ht : Tab w) (h : EgAt E D g m v w) (hE : 0 < E) (c : Chg (eHas E m v) w w') : Tab w' :=
  ht.below (B := 1) (by decide) (c.below ht.pos (fun x q => by have := (h.has q).1; omega))
def PrPost (E D : Nat) (m v : Nat → Value) (w : World) (r : EgN × List UInt8) (e' : Ending) (w' : World) : Prop := e' = .returned (.string (bya r.2)) ∧ GPost E D m v w r.1 w'
set_option maxRecDepth 100000 in
set_option maxHeartbeats 8000000 in
theorem prepare_any (E D : Nat) (g : EgN) (m v : Nat → Value) (ws : List Nat) (w : World) (kk : Nat) (h : EgAt E D g m v w) (ht : Tab w) (hE : 0 < E) (hws : wOK ws) (hblk : blkOK (bya (wdsT ws))) (hrn : RnOK g kk) (hkk : kk ≤ 100000000000) (hpl : ∀ k ∈ g.b 0, k.2.length ≤ 1000000) :
    Calls Tryz.prog 218 #[.pointer (some ⟨E, 0, none⟩), .agg (S (wdZ ws))] w (PrPost E D m v w (prepE g ws)) := by
  obtain ⟨W0, hW0⟩ : ∃ W0, W0 = w.alloc (.cells (S (wdZ ws)) 187) := ⟨_, rfl⟩
  have hb0 : Below w.heap.size w W0 := by rw [hW0]; exact (Below.refl _ _).alloc (Nat.le_refl _) _
  have r0 : RowI W0 w.heap.size 187 (wdZ ws) := by rw [hW0]; exact _root_.Go.heap_alloc_new w _
  have hz9 := wdZ_len hws.1
  have rI := r0.isRow 9 hz9
  have rD := r0.rowD
  have HLd := hide (fun w' x => load_W w' x (wdZ ws) hz9)
  have HTx := hide (fun w' => wdText_any ws w' hws.1 hws.2)
  have HH := hide h; have HWs := hide hws; have HBk := hide hblk; have HRn := hide hrn; have HKk := hide hkk
  have HT := hide (fun w' (hb : Below w.heap.size w w') => ht.below ht.pos hb)
  have HFn := hide (fun w' (h' : EgAt E D g m v w') => find_any E E 149 (g.b 0) (m 0) (v 0) ws w' (h'.bk 0 (by decide)) hws (by have := hrn.1 0 (by decide); omega))
  have HTr := hide (fun w' (ht' : Tab w') => trans_ws ws w' ht' hblk)
  have HR0 := hide r0; have HB0 := hide hb0; have HW0 := hide hW0; have HE0 := hide hE
  have HAc := hide (fun p w' (ht' : Tab w') (hp : p.length ≤ 1000000) => meanAccept_any (bya (wdsT ws)) (bya p) w' ht' (by have := hblk.2.1; unfold maxLen; omega) (by rw [bya_size]; unfold maxLen; omega))
  have HPl : Hid (∀ p, fB (g.b 0) ws = some p → p.length ≤ 1000000) := fun p hp => by
    obtain ⟨n, hn, _⟩ := fB_some hp
    exact hpl (ws, p) (List.mem_of_getElem? hn)
  have HW64 : Hid (∀ i, i < 4 → ∀ n, n = g.c i → wrap64 ((n : Int) + 1) = (n : Int) + 1) := fun i hi n hn => by have := hrn.2 i hi; subst hn; unfold wrap64; omega
  obtain ⟨PR, hPR⟩ : ∃ PR, PR = prepE g ws := ⟨_, rfl⟩
  rw [← hPR]
  have HPR := hide hPR
  clear h ht hE hws hblk hrn hkk hpl r0 hb0 hW0 hPR
  go_enter Tryz.func218, Tryz.ntmps218
  go_wp2_with (first | refine wpList_loadR rfl Tryz.underlying187 size9 rfl _ rfl w.heap.size rfl (by rw [← HW0.out]; exact rI) (S (wdZ ws)) (by rw [← HW0.out]; exact rD) ?_)
  rw [← HW0.out]
  refine (unhide HTx _).mono ?_
  rintro e w1 ⟨rfl, hb1⟩
  have hB1 : Below w.heap.size w w1 := HB0.out.trans (hb1.mono HB0.out.size)
  have rX : RowI w1 w.heap.size 187 (wdZ ws) := HR0.out.keep (hb1.block _ HR0.out.lt)
  have k1 : EgAt E D g m v w1 := HH.out.kept (fun x q => hB1.block x (HH.out.has q).2)
  have HFd := hide (HFn.out w1.drew (k1.kept (fun _ _ => rfl)))
  have HB1 := hide hB1
  clear hb1 hB1 rI rD HTx k1 HFn
  go_upto_region 2 with fail
  refine held_pick3 6 [0, 1, 2, 3] [4] 4 5 (fun w' => RowI w' w.heap.size 187 (wdZ ws)) (by kernel_rfl) (by kernel_rfl) (fun d _ _ _ _ h => by cases d <;> exact h) rX ?_
  iterate 3
    refine wpTakeI_step ?_ rfl rfl ?_ ?_
    rotate_left
    · rintro w' d0
      go_simp
      rfl
    go_simp
  refine wpTakeI_step (.agg (S (wdZ ws))) rfl rfl ?_ ?_
  · rintro w' d0
    have hl := HLd.out w' _ d0
    simp only [execOp, List.getElem_toArray, List.getElem_cons_succ, List.getElem_cons_zero, Sem.run_bind]
    show Result.andThen (Sem.run Tryz.prog (Instr.loadAt 187 (.pointer (some ⟨w.heap.size, 0, none⟩))) w') _ = _
    rw [hl]
    rfl
  go_simp
  refine wpTakeI_nil ?_
  refine wpTailJ_step rfl rfl (fun K hK => ?_)
  go_simp
  refine (unhide HFd).mono ?_
  rintro e wf ⟨rfl, hbf⟩
  go_simp
  refine hK _ _ (fun h => absurd h (by decide)) ?_
  clear hK K
  refine wpTailJ_nil ?_
  repeat still_step
  refine wpStill_nil ?_
  have hBf : Below w.heap.size w wf := (HB1.out.drew).trans (hbf.mono HB1.out.size)
  have rX : RowI wf w.heap.size 187 (wdZ ws) := rX.keep (hbf.block _ rX.lt)
  have kf : EgAt E D g m v wf := HH.out.kept (fun x q => hBf.block x (HH.out.has q).2)
  have hTf := HT.out wf hBf
  have HKf := hide kf; have HBf := hide hBf; have HTf := hide hTf
  cases hq : fB (g.b 0) ws with
  | some p =>
    have hpl := HPl.out p hq
    have HA := hide (HAc.out p wf hTf hpl)
    simp only [Option.getD_some, Option.isSome_some]
    clear hbf hTf kf hBf HFd HAc HPl
    go_wp2_with fail
    refine (unhide HA).mono ?_
    rintro e wc ⟨hbc, n, rfl, hacc⟩
    have hBc : Below w.heap.size w wc := HBf.out.trans (hbc.mono HBf.out.size)
    have HGc : Hid (GPost E D m v w g wc) := GPost.of_below HH.out hBc
    have kc : EgAt E D g m v wc := HH.out.kept (fun x q => hBc.block x (HH.out.has q).2)
    by_cases hn : n = 0
    · subst hn
      have HP2 : Hid (PR = (ctE g 1, p)) := by unfold Hid; rw [HPR.out]; unfold prepE; rw [hq]; simp only; rw [if_pos ((accB_iff _ _).2 hacc)]
      have c142 : wc.cell? ⟨E, 142, none⟩ = some (.int .i64 ((g.c 1 : Nat) : Int)) := kc.sc 142 (.inr (by decide))
      have f142 := kc.fz 142
      have w1' := HW64.out 1 (by decide) _ rfl
      have HEnd : Hid (∀ W, W = wc.setCell ⟨E, 142, none⟩ (.int .i64 ((g.c 1 : Int) + 1)) → GPost E D m v w (ctE g 1) W) := fun W hW => HGc.out.bind (fun m1 v1 k1 => k1.ct 1 (by decide) W hW)
      clear hbc hacc hq hpl kc hBc HA
      go_wp2_with fail
      go_ret
      rw [HP2.out]
      exact ⟨rfl, HEnd.out _ rfl⟩
    · have hn' : (n == 0) = false := by simpa using hn
      have HP2 : Hid (PR = (layG (ctE (ctE g 2) 3) 1 ws (ownT ws), ownT ws)) := by unfold Hid; rw [HPR.out]; unfold prepE; rw [hq]; simp only; rw [if_neg (fun q => hn (hacc.one ((accB_iff _ _).1 q)))]
      have c143 : wc.cell? ⟨E, 143, none⟩ = some (.int .i64 ((g.c 2 : Nat) : Int)) := kc.sc 143 (.inr (by decide))
      have f143 := kc.fz 143
      have w2' := HW64.out 2 (by decide) _ rfl
      have rXc : RowI wc w.heap.size 187 (wdZ ws) := rX.keep (hbc.block _ rX.lt)
      obtain ⟨wb, hwb⟩ : ∃ wb, wb = wc.setCell ⟨E, 143, none⟩ (.int .i64 ((g.c 2 : Int) + 1)) := ⟨_, rfl⟩
      obtain ⟨kb, cb0⟩ := kc.ct' 2 (by decide) (g.c 2) rfl wb hwb
      have cb : Chg (eHas E m v) w wb := (Chg.of_below hBc).trans (fun x q => .inl q) cb0
      have rX : RowI wb w.heap.size 187 (wdZ ws) := rXc.keep (by rw [hwb]; exact set_other (fun e => by have := HH.out.lt; omega))
      have HWb := hide hwb
      clear hbc hacc hq hpl kc hBc HA hn cb0 hwb rXc HGc
      go_upto_region 8 with fail
      rw [← HWb.out]
      have kc := kb; have cc := cb
      clear c143 f143 w2' kb cb
      have c144 : wb.cell? ⟨E, 144, none⟩ = some (.int .i64 ((g.c 3 : Nat) : Int)) := kc.sc 144 (.inr (by decide))
      have f144 := kc.fz 144
      have w3 := HW64.out 3 (by decide) _ rfl
      obtain ⟨wd, hwd⟩ : ∃ wd, wd = wb.setCell ⟨E, 144, none⟩ (.int .i64 ((g.c 3 : Int) + 1)) := ⟨_, rfl⟩
      obtain ⟨kd, cd0⟩ := kc.ct' 3 (by decide) (g.c 3) rfl wd hwd
      have cd := cc.trans (fun x q => .inl q) cd0
      have hwlt : w.heap.size < wd.heap.size := by rw [hwd, set_size]; exact rX.lt
      have rX : RowI wd w.heap.size 187 (wdZ ws) := rX.keep (by rw [hwd]; exact set_other (fun e => by have := HH.out.lt; omega))
      have HTq := hide (HTr.out wd ((HT.out w (Below.refl _ _)).chg HH.out HE0.out cd))
      have HWd := hide hwd; have HKd := hide kd; have HCd := hide cd
      clear kc cc kd cd cd0 hwd HTr
      go_wp2_with fail
      rw [← HWd.out]
      refine (unhide HTq).mono ?_
      rintro e we ⟨rfl, hbe⟩
      have rX : RowI we w.heap.size 187 (wdZ ws) := rX.keep (hbe.block _ hwlt)
      have ke : EgAt E D (ctE (ctE g 2) 3) m v we.drew := HKd.out.kept (fun x q => hbe.block x (HKd.out.has q).2)
      have ce : Chg (eHas E m v) w we.drew := HCd.out.trans (fun x q => .inl q) (Chg.of_below hbe.drew)
      have HLy := hide (bklay_any E E 151 (g.b 1) (m 1) (v 1) ws (bya (ownT ws)) we.drew (ke.bk 1 (by decide)) (Nat.le_refl _) ke.fz HWs.out (by have := HRn.out.1 1 (by decide); have := HKk.out; omega))
      have HKe := hide ke; have HCe := hide ce
      clear ke ce hbe c144 f144 w3 HTq
      go_upto_region 10 with fail
      refine held_tail 5 1 (fun w' => RowI w' w.heap.size 187 (wdZ ws)) (by kernel_rfl) (by kernel_rfl) (fun d _ _ _ _ h => by cases d <;> exact h) rX ?_
      simp only [List.take_succ_cons, List.take_zero, List.drop_succ_cons, List.drop_zero]
      iterate 3
        refine wpTake_step ?_ rfl ?_ ?_
        rotate_left
        · rintro w' d0
          go_simp
          rfl
        go_simp
      refine wpTake_step (.agg (S (wdZ ws))) rfl ?_ ?_
      · rintro w' d0
        have hl := HLd.out w' _ d0
        simp only [execOp, Sem.run_bind]
        show Result.andThen (Sem.run Tryz.prog (Instr.loadAt 187 (.pointer (some ⟨w.heap.size, 0, none⟩))) w') _ = _
        rw [hl]
        rfl
      go_simp
      refine wpTake_step ?_ rfl ?_ ?_
      rotate_left
      · rintro w' d0
        go_simp
        rfl
      go_simp
      refine wpTake_nil ?_
      refine wpTail_step rfl (fun K hK => ?_)
      go_simp
      refine (unhide HLy).mono ?_
      intro e wl hl
      rw [lst_bya] at hl
      obtain ⟨rfl, hg⟩ := HKe.out.lay (i := 1) (by decide) hl
      have HGf : Hid (GPost E D m v w (layG (ctE (ctE g 2) 3) 1 ws (ownT ws)) wl) := GPost.from HCe.out hg
      have rXl : RowI wl w.heap.size 187 (wdZ ws) := by
        obtain ⟨_, _, _, c, _⟩ := hg
        exact rX.keep (c.other _ rX.lt (fun q => by have := (HH.out.has q).2; omega))
      clear hl hg HLy
      go_simp
      refine hK _ _ rXl ?_
      clear hK K
      unfold wpTailS
      go_wp2_with fail
      go_ret
      rw [HP2.out]
      exact ⟨rfl, HGf.out⟩
  | none =>
    have HP2 : Hid (PR = (layG (ctE g 3) 1 ws (ownT ws), ownT ws)) := by unfold Hid; rw [HPR.out]; unfold prepE; rw [hq]
    have kc := kf
    have cc : Chg (eHas E m v) w wf := Chg.of_below hBf
    simp only [Option.getD_none, Option.isSome_none]
    clear hbf hTf kf hBf HFd HAc HPl hq
    have c144 : wf.cell? ⟨E, 144, none⟩ = some (.int .i64 ((g.c 3 : Nat) : Int)) := kc.sc 144 (.inr (by decide))
    have f144 := kc.fz 144
    have w3 := HW64.out 3 (by decide) _ rfl
    obtain ⟨wd, hwd⟩ : ∃ wd, wd = wf.setCell ⟨E, 144, none⟩ (.int .i64 ((g.c 3 : Int) + 1)) := ⟨_, rfl⟩
    obtain ⟨kd, cd0⟩ := kc.ct' 3 (by decide) (g.c 3) rfl wd hwd
    have cd := cc.trans (fun x q => .inl q) cd0
    have hwlt : w.heap.size < wd.heap.size := by rw [hwd, set_size]; exact rX.lt
    have rX : RowI wd w.heap.size 187 (wdZ ws) := rX.keep (by rw [hwd]; exact set_other (fun e => by have := HH.out.lt; omega))
    have HTq := hide (HTr.out wd ((HT.out w (Below.refl _ _)).chg HH.out HE0.out cd))
    have HWd := hide hwd; have HKd := hide kd; have HCd := hide cd
    clear kc cc kd cd cd0 hwd HTr
    go_wp2_with fail
    rw [← HWd.out]
    refine (unhide HTq).mono ?_
    rintro e we ⟨rfl, hbe⟩
    have rX : RowI we w.heap.size 187 (wdZ ws) := rX.keep (hbe.block _ hwlt)
    have ke : EgAt E D (ctE (g) 3) m v we.drew := HKd.out.kept (fun x q => hbe.block x (HKd.out.has q).2)
    have ce : Chg (eHas E m v) w we.drew := HCd.out.trans (fun x q => .inl q) (Chg.of_below hbe.drew)
    have HLy := hide (bklay_any E E 151 (g.b 1) (m 1) (v 1) ws (bya (ownT ws)) we.drew (ke.bk 1 (by decide)) (Nat.le_refl _) ke.fz HWs.out (by have := HRn.out.1 1 (by decide); have := HKk.out; omega))
    have HKe := hide ke; have HCe := hide ce
    clear ke ce hbe c144 f144 w3 HTq
    go_upto_region 10 with fail
    refine held_tail 5 1 (fun w' => RowI w' w.heap.size 187 (wdZ ws)) (by kernel_rfl) (by kernel_rfl) (fun d _ _ _ _ h => by cases d <;> exact h) rX ?_
    simp only [List.take_succ_cons, List.take_zero, List.drop_succ_cons, List.drop_zero]
    iterate 3
      refine wpTake_step ?_ rfl ?_ ?_
      rotate_left
      · rintro w' d0
        go_simp
        rfl
      go_simp
    refine wpTake_step (.agg (S (wdZ ws))) rfl ?_ ?_
    · rintro w' d0
      have hl := HLd.out w' _ d0
      simp only [execOp, Sem.run_bind]
      show Result.andThen (Sem.run Tryz.prog (Instr.loadAt 187 (.pointer (some ⟨w.heap.size, 0, none⟩))) w') _ = _
      rw [hl]
      rfl
    go_simp
    refine wpTake_step ?_ rfl ?_ ?_
    rotate_left
    · rintro w' d0
      go_simp
      rfl
    go_simp
    refine wpTake_nil ?_
    refine wpTail_step rfl (fun K hK => ?_)
    go_simp
    refine (unhide HLy).mono ?_
    intro e wl hl
    rw [lst_bya] at hl
    obtain ⟨rfl, hg⟩ := HKe.out.lay (i := 1) (by decide) hl
    have HGf : Hid (GPost E D m v w (layG (ctE (g) 3) 1 ws (ownT ws)) wl) := GPost.from HCe.out hg
    have rXl : RowI wl w.heap.size 187 (wdZ ws) := by
      obtain ⟨_, _, _, c, _⟩ := hg
      exact rX.keep (c.other _ rX.lt (fun q => by have := (HH.out.has q).2; omega))
    clear hl hg HLy
    go_simp
    refine hK _ _ rXl ?_
    clear hK K
    unfold wpTailS
    go_wp2_with fail
    go_ret
    rw [HP2.out]
    exact ⟨rfl, HGf.out⟩
set_option maxRecDepth 100000 in
set_option maxHeartbeats 8000000 in
theorem planFor_any (E D : Nat) (g : EgN) (m v : Nat → Value) (ws : List Nat) (w : World) (kk : Nat) (h : EgAt E D g m v w) (ht : Tab w) (hE : 0 < E) (hws : wOK ws) (hblk : blkOK (bya (wdsT ws))) (hrn : RnOK g kk) (hkk : kk ≤ 100000000000) (hpl : ∀ k ∈ g.b 0, k.2.length ≤ 1000000) :
    Calls Tryz.prog 182 #[.pointer (some ⟨E, 0, none⟩), .agg (S (wdZ ws))] w (PrPost E D m v w (planE g ws)) := by
  obtain ⟨W0, hW0⟩ : ∃ W0, W0 = w.alloc (.cells (S (wdZ ws)) 187) := ⟨_, rfl⟩
  have hb0 : Below w.heap.size w W0 := by rw [hW0]; exact (Below.refl _ _).alloc (Nat.le_refl _) _
  have rX : RowI W0 w.heap.size 187 (wdZ ws) := by rw [hW0]; exact _root_.Go.heap_alloc_new w _
  have hz9 := wdZ_len hws.1
  have HLd := hide (fun w' x => load_W w' x (wdZ ws) hz9)
  have HH := hide h; have HWs := hide hws
  have HT := hide (fun w' (hb : Below w.heap.size w w') => ht.below ht.pos hb)
  have k0 : EgAt E D g m v W0.drew := h.kept (fun x q => hb0.block x (h.has q).2)
  have HFd := hide (find_any E E 153 (g.b 2) (m 2) (v 2) ws W0.drew (k0.bk 2 (by decide)) hws (by have := hrn.1 2 (by decide); omega))
  have HPp := hide (fun w' (h' : EgAt E D g m v w') (ht' : Tab w') => prepare_any E D g m v ws w' kk h' ht' hE hws hblk hrn hkk hpl)
  have HB0 := hide hb0; have HW0 := hide hW0
  have HW64 : Hid (wrap64 ((g.c 0 : Int) + 1) = (g.c 0 : Int) + 1) := by have := hrn.2 0 (by decide); unfold Hid wrap64; omega
  have HLn : Hid (((prepE g ws).1.b 2).length ≤ 1000000000000) := by
    have e : (prepE g ws).1.b 2 = g.b 2 := by
      unfold prepE
      repeat' split
      all_goals rfl
    unfold Hid
    rw [e]
    have := hrn.1 2 (by decide)
    omega
  obtain ⟨PR, hPR⟩ : ∃ PR, PR = planE g ws := ⟨_, rfl⟩
  rw [← hPR]
  have HPR := hide hPR
  clear h ht hE hws hblk hrn hkk hpl hb0 hW0 hPR k0
  go_enter Tryz.func182, Tryz.ntmps182
  go_upto_region 1 with fail
  rw [← HW0.out]
  refine held_pick3 6 [0, 1, 2, 3] [4] 4 5 (fun w' => RowI w' w.heap.size 187 (wdZ ws)) (by kernel_rfl) (by kernel_rfl) (fun d _ _ _ _ h => by cases d <;> exact h) rX ?_
  iterate 3
    refine wpTakeI_step ?_ rfl rfl ?_ ?_
    rotate_left
    · rintro w' d0
      go_simp
      rfl
    go_simp
  refine wpTakeI_step (.agg (S (wdZ ws))) rfl rfl ?_ ?_
  · rintro w' d0
    have hl := HLd.out w' _ d0
    simp only [execOp, List.getElem_toArray, List.getElem_cons_succ, List.getElem_cons_zero, Sem.run_bind]
    show Result.andThen (Sem.run Tryz.prog (Instr.loadAt 187 (.pointer (some ⟨w.heap.size, 0, none⟩))) w') _ = _
    rw [hl]
    rfl
  go_simp
  refine wpTakeI_nil ?_
  refine wpTailJ_step rfl rfl (fun K hK => ?_)
  go_simp
  refine (unhide HFd).mono ?_
  rintro e wf ⟨rfl, hbf⟩
  go_simp
  refine hK _ _ (fun h => absurd h (by decide)) ?_
  clear hK K
  refine wpTailJ_nil ?_
  repeat still_step
  refine wpStill_nil ?_
  have hBf : Below w.heap.size w wf := (HB0.out.drew).trans (hbf.mono HB0.out.size)
  have rX : RowI wf w.heap.size 187 (wdZ ws) := rX.keep (hbf.block _ rX.lt)
  have kf : EgAt E D g m v wf := HH.out.kept (fun x q => hBf.block x (HH.out.has q).2)
  have HBf := hide hBf
  cases hq : fB (g.b 2) ws with
  | some p =>
    have HP2 : Hid (PR = (ctE g 0, p)) := by unfold Hid; rw [HPR.out]; unfold planE; rw [hq]
    have c141 : wf.cell? ⟨E, 141, none⟩ = some (.int .i64 ((g.c 0 : Nat) : Int)) := kf.sc 141 (.inr (by decide))
    have f141 := kf.fz 141
    have w0' := HW64.out
    have HEnd : Hid (∀ W, W = wf.setCell ⟨E, 141, none⟩ (.int .i64 ((g.c 0 : Int) + 1)) → GPost E D m v w (ctE g 0) W) := fun W hW => (GPost.of_below HH.out hBf).bind (fun m1 v1 k1 => k1.ct 0 (by decide) W hW)
    simp only [Option.getD_some, Option.isSome_some]
    clear hbf kf hBf HFd HPp hq
    go_wp2_with fail
    go_ret
    rw [HP2.out]
    exact ⟨rfl, HEnd.out _ rfl⟩
  | none =>
    have HP2 : Hid (PR = (layG (prepE g ws).1 2 ws (prepE g ws).2, (prepE g ws).2)) := by unfold Hid; rw [HPR.out]; unfold planE; rw [hq]
    have HQ := hide (HPp.out wf kf (HT.out wf hBf))
    have rI := rX.isRow 9 hz9
    have rD := rX.rowD
    simp only [Option.getD_none, Option.isSome_none]
    clear hbf kf hBf HFd HPp hq
    go_wp2_with (first | refine wpList_loadR rfl Tryz.underlying187 size9 rfl _ rfl w.heap.size rfl rI (S (wdZ ws)) rD ?_)
    refine (unhide HQ).mono ?_
    rintro e we ⟨rfl, me, ve, ke0, ce, oe⟩
    have hXe : ¬ eHas E me ve w.heap.size := fun q => by
      rcases oe _ q with a | a
      · have := (HH.out.has a).2; omega
      · have := rX.lt; omega
    have rX : RowI we w.heap.size 187 (wdZ ws) := rX.keep (ce.other _ rX.lt (fun q => by have := (HH.out.has q).2; omega))
    have ke : EgAt E D (prepE g ws).1 me ve we.drew := ke0.kept (fun _ _ => rfl)
    have HC : Hid (Chg (eHas E m v) w we.drew) := (Chg.of_below HBf.out).trans (fun x q => .inl q) (ce.trans (F1 := eHas E m v) (fun x q => .inl q) (Chg.of_below ((Below.refl _ _).drew)))
    have HO : Hid (∀ x, eHas E me ve x → eHas E m v x ∨ w.heap.size ≤ x) := fun x q => (oe x q).imp id (fun a => Nat.le_trans HBf.out.size a)
    have HLy := hide (bklay_any E E 153 ((prepE g ws).1.b 2) (me 2) (ve 2) ws (bya (prepE g ws).2) we.drew (ke.bk 2 (by decide)) (Nat.le_refl _) ke.fz HWs.out HLn.out)
    have HKe := hide ke
    clear ke ce oe ke0 HQ rI rD HLn
    generalize prepE g ws = PP at *
    go_upto_region 6 with fail
    refine held_tail 5 1 (fun w' => RowI w' w.heap.size 187 (wdZ ws)) (by kernel_rfl) (by kernel_rfl) (fun d _ _ _ _ h => by cases d <;> exact h) rX ?_
    simp only [List.take_succ_cons, List.take_zero, List.drop_succ_cons, List.drop_zero]
    iterate 3
      refine wpTake_step ?_ rfl ?_ ?_
      rotate_left
      · rintro w' d0
        go_simp
        rfl
      go_simp
    refine wpTake_step (.agg (S (wdZ ws))) rfl ?_ ?_
    · rintro w' d0
      have hl := HLd.out w' _ d0
      simp only [execOp, Sem.run_bind]
      show Result.andThen (Sem.run Tryz.prog (Instr.loadAt 187 (.pointer (some ⟨w.heap.size, 0, none⟩))) w') _ = _
      rw [hl]
      rfl
    go_simp
    refine wpTake_step ?_ rfl ?_ ?_
    rotate_left
    · rintro w' d0
      go_simp
      rfl
    go_simp
    refine wpTake_nil ?_
    refine wpTail_step rfl (fun K hK => ?_)
    go_simp
    refine (unhide HLy).mono ?_
    intro e wl hl
    rw [lst_bya] at hl
    obtain ⟨rfl, hg⟩ := HKe.out.lay (i := 2) (by decide) hl
    have HGf : Hid (GPost E D m v w (layG PP.1 2 ws PP.2) wl) := GPost.seq HC.out HO.out hg
    have rXl : RowI wl w.heap.size 187 (wdZ ws) := by
      obtain ⟨_, _, _, c, _⟩ := hg
      exact rX.keep (c.other _ rX.lt hXe)
    clear hl hg HLy
    go_simp
    refine hK _ _ rXl ?_
    clear hK K
    unfold wpTailS
    go_wp2_with fail
    go_ret
    rw [HP2.out]
    exact ⟨rfl, HGf.out⟩
end Go.Proofs.YtmmflekajbeamaaGreatDoor

namespace Go.Proofs.YtmmflekajbeamaaGreatDoor
open Go.RowKit Go.Maps Go.WideMaps

theorem gz_put (z : List Int) (i j : Nat) (v : Int) (hi : i < z.length) : gz (z.set i v) j = if j = i then v else gz z j := by
  unfold gz
  rw [List.getD_eq_getElem?_getD, List.getD_eq_getElem?_getD, List.getElem?_set]
  by_cases e : j = i
  · subst e; rw [if_pos rfl, if_pos hi, if_pos rfl]; rfl
  · rw [if_neg (fun q => e q.symm), if_neg e]
theorem stB_intro {z : List Int} (h1 : ∀ i, i < 136 → 0 ≤ gz z i ∧ gz z i < 4294967296) (h2 : 0 ≤ gz z 136 ∧ gz z 136 < 128 ∧ 0 ≤ gz z 137 ∧ gz z 137 ≤ 2) : stB z = true := by
  simp only [stB, Bool.and_eq_true, regsB, memB, pcB, List.all_eq_true, List.mem_range, decide_eq_true_eq]
  exact ⟨⟨fun i hi => (isW_iff _).2 (h1 i (by omega)), fun i hi => (isW_iff _).2 (h1 (8 + i) (by omega))⟩, h2⟩
theorem stB_word {z : List Int} (h : stB z = true) (hl : z.length = 138) {i : Nat} (hi : i < 136) {v : Int} (hv : 0 ≤ v ∧ v < 4294967296) : stB (z.set i v) = true := by
  have hp := stB_pc h
  refine stB_intro (fun j hj => ?_) ?_
  · rw [gz_put _ _ _ _ (by omega)]
    split
    · exact hv
    · exact stB_reg h j hj
  · rw [gz_put _ _ _ _ (by omega), gz_put _ _ _ _ (by omega), if_neg (by omega), if_neg (by omega)]
    exact hp
theorem stB_setPc {z : List Int} (h : stB z = true) (hl : z.length = 138) {v : Int} (hv : 0 ≤ v ∧ v < 128) : stB (z.set 136 v) = true := by
  have hp := stB_pc h
  refine stB_intro (fun j hj => ?_) ?_
  · rw [gz_put _ _ _ _ (by omega), if_neg (by omega)]
    exact stB_reg h j hj
  · rw [gz_put _ _ _ _ (by omega), gz_put _ _ _ _ (by omega), if_pos rfl, if_neg (by omega)]
    exact ⟨hv.1, hv.2, hp.2.2⟩
theorem stB_stop {z : List Int} (h : stB z = true) (hl : z.length = 138) {v : Int} (hv : 0 ≤ v ∧ v ≤ 2) : stB (z.set 137 v) = true := by
  have hp := stB_pc h
  refine stB_intro (fun j hj => ?_) ?_
  · rw [gz_put _ _ _ _ (by omega), if_neg (by omega)]
    exact stB_reg h j hj
  · rw [gz_put _ _ _ _ (by omega), gz_put _ _ _ _ (by omega), if_pos rfl, if_neg (by omega)]
    exact ⟨hp.1, hp.2.1, hv.1, hv.2⟩
theorem stp_stB {z : List Int} (h : stB z = true) (hl : z.length = 138) (hs : gz z 137 = 0) : stB (stp z).1 = true ∧ (stp z).2 = 0 := by
  unfold stp
  rw [if_neg (by rw [h]; decide), if_neg (by rw [hs]; decide)]
  split
  · exact ⟨stB_stop h hl (by omega), rfl⟩
  · rename_i hk
    refine ⟨?_, rfl⟩
    have hkn : knZ z = true := by simpa using hk
    unfold knZ knB at hkn
    generalize fop (wordZ z) = op at *
    have ha := fa_bd (wordZ z); have hb := fb_bd (wordZ z); have hc := fc_bd (wordZ z); have hk2 := fk_bd (wordZ z)
    generalize fa (wordZ z) = a at *
    generalize fb (wordZ z) = b at *
    generalize fc (wordZ z) = c at *
    generalize fk (wordZ z) = k at *
    have hp := stB_pc h
    have hpc : 0 ≤ (gz z 136 + 1) % 128 ∧ (gz z 136 + 1) % 128 < 128 := by omega
    have hm : ∀ x : Int, (8 + (x % 128).toNat) < 136 := fun x => by omega
    unfold nxt
    have hl' : ∀ i v, (z.set i v).length = 138 := fun i v => by rw [List.length_set, hl]
    have h8 : ∀ {x : Int}, 0 ≤ x → x < 8 → x.toNat < 136 := fun h0 h1 => by omega
    split
    · exact stB_stop h hl (by omega)
    · rename_i n0
      split
      · rename_i e1
        rw [if_neg (by omega), if_pos (.inl e1)] at hkn
        exact stB_setPc (stB_word h hl (h8 ha.1 (of_decide_eq_true hkn)) (by omega)) (hl' _ _) hpc
      · rename_i n1
        split
        · rename_i e2
          rw [if_neg (by omega), if_neg (by omega), if_pos e2] at hkn
          obtain ⟨q1, q2, q3⟩ := of_decide_eq_true hkn
          exact stB_setPc (stB_word h hl (h8 ha.1 q1) (wk_bd _ _ _ (stB_reg h _ (h8 hb.1 q2)).1 (stB_reg h _ (h8 hb.1 q2)).2 (stB_reg h _ (h8 hc.1 q3)).1 (stB_reg h _ (h8 hc.1 q3)).2)) (hl' _ _) hpc
        · rename_i n2
          split
          · rename_i e6
            rw [if_neg (by omega), if_neg (by omega), if_neg n2, if_pos (.inl e6)] at hkn
            obtain ⟨q1, q2⟩ := of_decide_eq_true hkn
            exact stB_setPc (stB_word h hl (h8 ha.1 q1) (stB_reg h _ (hm _))) (hl' _ _) hpc
          · rename_i n6
            split
            · rename_i e7
              rw [if_neg (by omega), if_neg (by omega), if_neg n2, if_pos (.inr (.inl e7))] at hkn
              obtain ⟨q1, q2⟩ := of_decide_eq_true hkn
              exact stB_setPc (stB_word h hl (hm _) (stB_reg h _ (h8 ha.1 q1))) (hl' _ _) hpc
            · split
              · refine stB_setPc h hl ?_
                split <;> omega
              · split
                · exact stB_setPc h hl (by omega)
                · exact stB_setPc h hl ⟨Int.emod_nonneg _ (by decide), Int.emod_lt_of_pos _ (by decide)⟩
/-- As many steps. -/
def itS : Nat → List Int → List Int
  | 0, z => z
  | n + 1, z => itS n (stp z).1
theorem itS_add (n k : Nat) (z : List Int) : itS (n + k) z = itS k (itS n z) := by
  induction n generalizing z with
  | zero => rw [Nat.zero_add]; rfl
  | succ n ih => rw [Nat.succ_add, itS, ih]; rfl
def memZ (z : List Int) : List Int := (z.drop 8).take 128
def pcZ (z : List Int) : Nat := (gz z 136).toNat
/-- The words of the block at Pc. -/
def wsZ (z : List Int) : List Nat := blkW (memZ z) (pcZ z) (blkN (memZ z) 8 (pcZ z))
structure RunOK (z : List Int) : Prop where
  len : z.length = 138
  st : stB z = true
theorem RunOK.pc {z : List Int} (h : RunOK z) : pcZ z < 128 ∧ gz z 136 = (pcZ z : Int) := by
  have := stB_pc h.st
  unfold pcZ
  omega
theorem RunOK.parts {z : List Int} (h : RunOK z) : WL 8 (z.take 8) ∧ WL 128 (memZ z) := stB_parts h.st h.len
theorem RunOK.form {z : List Int} (h : RunOK z) (hs : gz z 137 = 0) : z = stZ (z.take 8) (memZ z) (pcZ z) 0 := by
  rw [stZ_zero h.pc.1, ← h.pc.2, ← hs]
  exact z_mk h.len
theorem wsZ_len (z : List Int) : (wsZ z).length = blkN (memZ z) 8 (pcZ z) := blkW_len _ _ _
theorem wsZ_txt (z : List Int) : wdsT (wsZ z) = blkTxt (memZ z) (pcZ z) := rfl
theorem RunOK.blk {z : List Int} (h : RunOK z) : blkOK (bya (wdsT (wsZ z))) := blk_ok h.parts.2 h.pc.1
theorem RunOK.pos {z : List Int} (h : RunOK z) : 1 ≤ (wsZ z).length := by rw [wsZ_len]; exact blkN_pos _ 7 _ h.pc.1
theorem RunOK.wok {z : List Int} (h : RunOK z) : wOK (wsZ z) := by
  refine ⟨?_, ?_⟩
  · have := h.blk.2.1
    rw [bya_size, wdsT_len] at this
    omega
  · refine blkW_bd _ _ _ (fun i => ?_)
    rcases Nat.lt_or_ge i 128 with hi | hi
    · exact h.parts.2.at hi
    · rw [List.getD_eq_getElem?_getD, List.getElem?_eq_none (by rw [h.parts.2.1]; exact hi)]
      exact ⟨Int.le_refl _, by decide⟩
/-- The plain words of a block are as many steps. -/
theorem itS_plain {z : List Int} (h : RunOK z) (hs : gz z 137 = 0) : ∀ k, k ≤ nPl (bya (wdsT (wsZ z))) → itS k z = stZ (z.take 8) (memZ z) (pcZ z) k := by
  intro k
  induction k with
  | zero => intro _; exact h.form hs
  | succ k ih =>
    intro hk
    rw [itS_add k 1 z, ih (by omega)]
    have := stZ_step (k := k) h.parts.1 h.parts.2 h.pc.1 (by rw [wsZ_txt] at hk; omega)
    show (stp _).1 = _
    rw [this]
/-- A plan that is one of the block gives what its plain words give. -/
theorem do_plain {z : List Int} (h : RunOK z) {p : List UInt8} (ha : AccIs (bya (wdsT (wsZ z))) (bya p) 0) : putsOK (bya p) ∧ (doL (memZ z) (putL (bya p) ((bya p).size / 8)) (begD (z.take 8))).take 8 = ((blkPuts (bya (wdsT (wsZ z)))).take (nPl (bya (wdsT (wsZ z))))).foldl (rD (memZ z)) (z.take 8) := by
  rcases ha with ⟨_, e⟩ | ⟨_, _, e⟩ | ⟨_, hp, hc, _⟩ | ⟨_, _, _, e⟩
  · cases e
  · cases e
  · exact ⟨hp, sound_do h.parts.1 h.parts.2 h.pc.1 (putL_ok hp) hc⟩
  · cases e
theorem blkL_wds {ws : List Nat} (h : wOK ws) : blkL (bya (wdsT ws)) ws.length = ws := by
  unfold blkL
  apply List.ext_getElem?
  intro j
  rw [List.getElem?_map]
  rcases Nat.lt_or_ge j ws.length with hj | hj
  · rw [List.getElem?_range hj, List.getElem?_eq_getElem hj]
    show some (wdAt (bya (wdsT ws)) j) = some ws[j]
    rw [wdAt_wds (List.getElem?_eq_getElem hj) (h.2 _ (List.getElem_mem hj))]
  · rw [List.getElem?_eq_none (by simpa using hj), List.getElem?_eq_none hj]
    rfl
theorem plN_ws {z : List Int} (h : RunOK z) : plN (wsZ z) = nPl (bya (wdsT (wsZ z))) := by
  have := plN_nPl h.blk
  rw [bya_size, wdsT_len, show 4 * (wsZ z).length / 4 = (wsZ z).length by omega, blkL_wds h.wok] at this
  exact this
end Go.Proofs.YtmmflekajbeamaaGreatDoor
