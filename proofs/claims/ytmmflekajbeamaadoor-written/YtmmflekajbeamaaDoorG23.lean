/-
  A text is assembled (assemble, Assemble).
-/
import Derived.Test.YtmmflekajbeamaaDoorG22
import Derived.Test.YtmmflekajbeamaaDoorG11
import Derived.Deep.Onto
namespace Go.Proofs.YtmmflekajbeamaaDoor
open Go.RowKit Go.Maps Go.WideMaps

theorem cut_len (s : ByteArray) (hs : s.size ≤ 2000) : ∀ (f p : Nat) (st st' : CS) (ln col : Int), p ≤ s.size → s.size ≤ p + f → CInv s p st → (∀ L ∈ st.lines, L.length ≤ 2010) → brkGo s f p ln col = none → cutGo s f p st = .inl st' →
    (endLineS s s.size st').lines.length ≤ 2010 ∧ ∀ L ∈ (endLineS s s.size st').lines, L.length ≤ 2010 := by
  have endd : ∀ (p q : Nat) (st : CS), p ≤ s.size → CInv s p st → (∀ L ∈ st.lines, L.length ≤ 2010) → (endLineS s q st).lines.length ≤ 2010 ∧ ∀ L ∈ (endLineS s q st).lines, L.length ≤ 2010 := by
    intro p q st hp h hL
    have h2 : (endTokS s q st).line.length ≤ st.line.length + 1 := by
      unfold endTokS
      split
      · simp
      · omega
    have := h.k1; have := h.k2
    refine ⟨?_, fun L hL' => ?_⟩
    · show (st.lines ++ [(endTokS s q st).line]).length ≤ 2010
      rw [List.length_append, List.length_singleton]
      omega
    · rcases List.mem_append.1 hL' with h1 | h1
      · exact hL L h1
      · rw [List.mem_singleton.1 h1]
        omega
  intro f
  induction f with
  | zero =>
    intro p st st' ln col hp hf h hL _ hc
    cases hc
    exact endd p _ st hp h hL
  | succ f ih =>
    intro p st st' ln col hp hf h hL hv hc
    unfold cutGo at hc
    unfold brkGo at hv
    by_cases hlt : p < s.size
    · rw [if_pos hlt] at hc hv
      by_cases hw : wid s p = 0
      · rw [if_pos hw] at hv; cases hv
      rw [if_neg hw] at hv
      obtain ⟨hw2, hb, hle, _⟩ := wid_pos s p hlt hw
      rw [hb, hw2, if_neg (by decide)] at hc
      have hL2 : ∀ L ∈ (takeS s p (Utf8.decode s p).1 st).lines, L.length ≤ 2010 := by
        have e : (endTokS s p st).lines = st.lines := endTokS_lines s p st
        unfold takeS
        split
        · exact (endd p p st (by omega) h hL).2
        · split
          · show ∀ L ∈ (endTokS s p st).lines, _
            rw [e]; exact hL
          · split
            · exact hL
            · split
              · show ∀ L ∈ (endTokS s p st).lines, _
                rw [e]; exact hL
              · split <;> exact hL
      by_cases h10 : bt s p = 10
      · rw [if_pos h10] at hv
        exact ih _ _ _ _ _ hle (by omega) (h.take _ _ (by omega) hlt) hL2 hv hc
      · rw [if_neg h10] at hv
        exact ih _ _ _ _ _ hle (by omega) (h.take _ _ (by omega) hlt) hL2 hv hc
    · rw [if_neg hlt] at hc
      cases hc
      exact endd p _ st hp h hL
/-- A text that is cut is valid; its tokens are whole; its lines are not too many or too long. -/
theorem cut_all (s : ByteArray) (hs : s.size ≤ 2000) (st : CS) (hc : cutGo s s.size 0 cs0 = .inl st) :
    brkGo s s.size 0 1 1 = none ∧ (∀ L ∈ (endLineS s s.size st).lines, ∀ t ∈ L, TokOK t) ∧ (endLineS s s.size st).lines.length ≤ 2010 ∧ ∀ L ∈ (endLineS s s.size st).lines, L.length ≤ 2010 := by
  have hb : brkGo s s.size 0 1 1 = none := by
    cases hq : brkGo s s.size 0 1 1 with
    | none => rfl
    | some pl =>
      have := (cut_brk s s.size 0 cs0).1 pl hq
      rw [hc] at this
      cases this
  have h0 : CutOK s 0 cs0 := ⟨fun h => by simp [cs0] at h, by decide, (fun t ht => by simp [cs0] at ht), (fun L hL => by simp [cs0] at hL)⟩
  refine ⟨hb, cut_ok s hs s.size 0 cs0 st 1 1 (Nat.zero_le _) (by omega) h0 hb hc, ?_⟩
  exact cut_len s hs s.size 0 cs0 st 1 1 (Nat.zero_le _) (by omega) (CInv.zero s) (fun L hL => by simp [cs0] at hL) hb hc

/-- A map and a block of what is read, just laid. -/
theorem prog_new (W : World) : ProgAt W.heap.size (W.heap.size + 1) ps0 (.slice none 0 0) W.heap.size (.slice none 0 0) ((W.alloc (.map #[] 0)).alloc (.cells #[.slice none 0 0, .map (some W.heap.size), .slice none 0 0] 176)) := by
  have e : (W.alloc (.map #[] 0)).heap.size = W.heap.size + 1 := size_alloc1 _ _
  refine ⟨?_, ?_, ?_, fun i => ?_, by omega, Nat.le_refl _, (fun g hg => by cases hg), (fun g hg => by cases hg), World.ownsRow_nil _ _ _ _, World.ownsRow_nil _ _ _ _, .map [], (World.ownsMap_made W _ _ _).alloc _, fun k => ⟨rfl, fun v hv => by cases hv⟩⟩
  iterate 3
    · rw [World.cell?_alloc_at (hn := e.symm)]; rfl
  · rw [World.frozen?_alloc_at (hn := e.symm)]

def AsPost (w : World) (r : List Int ⊕ (Int × Int × Int)) (e' : Ending) (w' : World) : Prop :=
  Below w.heap.size w w' ∧ ((∃ ws v, r = .inl ws ∧ w'.ownsRow w.heap.size 3 1 v ws.length (intCs ws) ∧ e' = .returned (.tuple #[v, .agg #[.int .i64 0, .int .i64 0, .int .i64 0]])) ∨
    ∃ v l c e, r = .inr (l, c, e) ∧ e ≠ 0 ∧ e' = .returned (.tuple #[v, .agg #[.int .i64 l, .int .i64 c, .int .i64 e]]))

set_option maxRecDepth 100000 in
set_option maxHeartbeats 4000000 in
theorem assemble_any (s : ByteArray) (w : World) (ht : Tab w) (hsm : s.size ≤ maxLen) :
    Calls Tryd.prog 85 #[.string s] w (AsPost w (asmP s)) := by
  have hM : (s.size : Int) ≤ 9223372036854775807 := by unfold maxLen at hsm; omega
  by_cases hs : 2000 < s.size
  · have HR : Hid (asmP s = .inr (0, 0, 2)) := by unfold Hid asmP; rw [if_pos hs]
    have hs' : (2000 : Int) < (s.size : Int) := by omega
    go_enter Tryd.func85, Tryd.ntmps85
    go_wp2_with fail
    refine bodyPost_ret (v := .tuple #[.slice none 0 0, .agg #[.int .i64 0, .int .i64 0, .int .i64 2]]) (by simp [results, Tryd.results85, go_sem]) rfl ?_
    unfold AsPost
    exact ⟨(Below.refl _ _).alloc (Nat.le_refl _) _, .inr ⟨_, _, _, _, HR.out, by decide, rfl⟩⟩
  · have hs2 : s.size ≤ 2000 := by omega
    have hs' : ¬ (2000 : Int) < (s.size : Int) := by omega
    have HCut := hide (fun w' => cut_any s w' hs2)
    go_enter Tryd.func85, Tryd.ntmps85
    go_wp2_with fail
    refine (unhide HCut _).mono ?_
    rintro e w1 ⟨hb1, hres⟩
    have HB1 : Hid (Below w.heap.size w w1) := ((Below.refl _ _).alloc (Nat.le_refl _) _).trans (hb1.mono (by rw [size_alloc1]; omega))
    have HF1 := hide ((F0.new w).block (hb1.block w.heap.size (by rw [size_alloc1]; omega)))
    have hz : w.heap.size < w1.heap.size := block_lt_of_cell HF1.out.f0
    obtain ⟨f0, f1, f2, ff⟩ := HF1.out
    rcases hres with ⟨st, v, vl, hcut, hlines, rfl⟩ | ⟨l, c, hcut, rfl⟩
    · obtain ⟨hbrk, htok, hl1, hl2⟩ := cut_all s hs2 st hcut
      have HR : Hid (asmP s = match rdAll ps0 (endLineS s s.size st).lines with | .inr f => .inr f | .inl ps => fillGo ps.labels ps.uses ps.words) := by
        unfold Hid asmP
        rw [if_neg hs, hcut]
        rfl
      generalize (endLineS s s.size st).lines = Ls at *
      obtain ⟨vs, hov, hl⟩ := hlines
      obtain ⟨la, lc, rfl⟩ := owns_len hov
      have HTok := hide htok; have HL2 := hide hl2; have HOv := hide hov; have HL := hide hl
      have hW : ∃ W, W = w1.alloc (.cells #[.int .i64 0, .int .i64 0, .int .i64 0] 116) := ⟨_, rfl⟩
      obtain ⟨W, hW⟩ := hW
      have hWs : W.heap.size = w1.heap.size + 1 := by rw [hW, size_alloc1]
      have hBW : Below w1.heap.size w1 W := by rw [hW]; exact (Below.refl _ _).alloc (Nat.le_refl _) _
      have HFW := hide (HF1.out.block (hBW.block _ hz))
      have HNew := hide (prog_new W)
      have HBw := hide (HB1.out.trans (hBW.mono HB1.out.size))
      have HLW : Hid (∀ (i : Nat) (l : List Tok), Ls[i]? = some l → ∃ x, vs[i]? = some x ∧ SlAt W x l ∧ ∀ a m c, x = .slice (some a) m c → a.block < W.heap.size) := fun i l hi => by
        obtain ⟨x, hx, htk, _⟩ := HL.out i l hi
        obtain ⟨q1, q2⟩ := toks_sl (toks_keep htk hBW)
        exact ⟨x, hx, q1, fun a m c e => (q2 a m c e).2⟩
      have HOvW : Hid (W.ownsRow (w.heap.size + 1 + 2) 177 1 (.slice la Ls.length lc) Ls.length vs) := by
        rw [← size_alloc1 w (.cells #[.int .i64 0, .int .i64 0, .int .i64 0] 116)]
        exact ownsRow_keep HOv.out (fun g hg => hBW.block g (row_lt HOv.out g hg).2)
      have HW := hide hW
      clear hcut hb1 HCut hbrk htok hl2 hov hl f0 f1 f2 ff HL HOv hW hBW
      have hmm := @run_makeMap Tryd.prog
      go_wp2_with fail
      rw [← HW.out, ← hWs]
      have hz' : w.heap.size < W.heap.size := by omega
      have HWs := hide hWs
      clear hWs
      go_loopw [27] (fun i wr => ∃ (k : Nat) (ps : PS) (vw vu : Value), k ≤ Ls.length ∧ i = .int .i64 k ∧ ProgAt W.heap.size (W.heap.size + 1) ps vw W.heap.size vu wr ∧ Below W.heap.size W wr ∧ PInv ps k ∧ Hid (rdAll ps (Ls.drop k) = rdAll ps0 Ls)) (fun i _ => Ls.length - (intOf i).toNat)
      case atStart =>
        exact ⟨0, ps0, _, _, Nat.zero_le _, rfl, HNew.out, ((Below.refl _ _).alloc (Nat.le_refl _) _).alloc (by rw [size_alloc1]; omega) _, PInv.zero, rfl⟩
      case round =>
        obtain ⟨k, ps, vw, vu, hk, rfl, hpa, hbl, hpi, HG⟩ := hrel
        have HPa := hide hpa; have HBl := hide hbl; have HPi := hide hpi
        have hTab : Tab wr := ht.below ht.pos (HBw.out.trans (hbl.mono HBw.out.size))
        have hWr : W.heap.size + 1 < wr.heap.size := hpa.nlt
        have HFr := hide (HFW.out.block (hbl.block _ hz'))
        by_cases hlt : k < Ls.length
        · obtain ⟨g, lcap, hform, _, hgl⟩ := HOvW.out.form (by omega)
          cases hform
          obtain ⟨x, hx, hsl, hlow⟩ := HLW.out k Ls[k] (by simp [hlt])
          have hcell : wr.cell? ⟨g, k, none⟩ = some x := (below_cell' hbl g k hgl).trans ((HOvW.out.cellAt k (by omega)).trans hx)
          have hlt' : (k : Int) < (Ls.length : Int) := by omega
          have HDr : Hid (Ls.drop k = Ls[k] :: Ls.drop (k + 1)) := List.drop_eq_getElem_cons hlt
          have hmem : Ls[k] ∈ Ls := by simp
          have hLk := HL2.out _ hmem
          have hTk := HTok.out _ hmem
          generalize Ls[k] = L at *
          have hwl := hpi.wl; have hul := hpi.ul; have hll := hpi.ll
          have HRd := hide (readLine_any W.heap.size (W.heap.size + 1) ps vw W.heap.size vu x L wr hpa hTab (hsl.below hbl) hlow (by omega) (fun t htm => ⟨(hTk t htm).2.1, (hTk t htm).2.2.1⟩) hwl (by omega) (by omega))
          have HInv := hide (fun ps' => rdLine_inv (ps' := ps') hpi L (fun t htm => (hTk t htm).2.2.1))
          have hgr : g < wr.heap.size := by omega
          obtain ⟨sa, scp, hxs, _⟩ := hsl
          have HXs := hide hxs
          clear hpa hbl hpi hlow hx hTk hLk hmem hTab hwl hul hll hxs
          go_wp2_with fail
          refine (unhide HRd).mono ?_
          rintro e w2 ⟨vw', vu', hpf, hres⟩
          have HPf := hide hpf
          have hsz2 : wr.heap.size ≤ w2.heap.size := hpf.below.size
          have HF2 := hide (HFr.out.block (hpf.below.block _ (by omega)))
          have HB2 := hide (HBl.out.trans hpf.below)
          have hz2 : w.heap.size < w2.heap.size := by omega
          clear hpf HRd hcell
          rcases hres with ⟨ps', hrd, hpa', rfl⟩ | ⟨l, c, er, hrd, her, rfl⟩
          · have HPa' := hide hpa'
            have HI' := hide (HInv.out ps' hrd)
            have HG' : Hid (rdAll ps' (Ls.drop (k + 1)) = rdAll ps0 Ls) := by
              have := HG.out
              rw [HDr.out, rdAll, hrd] at this
              exact this
            clear hpa' hrd HInv HG HDr
            go_wp2_with fail
            have hB2 : W.heap.size ≤ w2.heap.size := by omega
            exact ⟨⟨k + 1, ps', vw', vu', by omega, by go_num, HPa'.out.alloc _, HB2.out.alloc hB2 _, HI'.out, HG'⟩, by simp [intOf]; omega⟩
          · have HR' : Hid (asmP s = .inr (l, c, er)) := by
              have := HG.out
              rw [HDr.out, rdAll, hrd] at this
              unfold Hid
              rw [HR.out, ← this]
            clear hrd HInv HG HDr
            obtain ⟨f0, f1, f2, ff⟩ := HF2.out
            go_wp2_with fail
            refine still_tail 2 (by kernel_rfl) (by kernel_rfl) ?_
            simp only [List.take_succ_cons, List.take_zero, List.drop_succ_cons, List.drop_zero]
            repeat still_step
            refine wpStill_nil ?_
            go_wp2_with fail
            refine bodyPost_ret (v := .tuple #[.slice none 0 0, .agg #[.int .i64 l, .int .i64 c, .int .i64 er]]) (by simp [results, Tryd.results85, go_sem, f0, f1, f2, hz2]) rfl ?_
            unfold AsPost
            refine ⟨?_, .inr ⟨_, _, _, _, HR'.out, her, rfl⟩⟩
            have y := below_set3 (HBw.out.trans (HB2.out.mono HBw.out.size)) (Nat.le_refl w.heap.size) (.int .i64 l) (.int .i64 c) (.int .i64 er)
            exact (y.alloc y.size _).drew
        · have hkn : k = Ls.length := by omega
          subst hkn
          have hrd : rdAll ps0 Ls = .inl ps := by rw [← HG.out, List.drop_of_length_le (Nat.le_refl _)]; rfl
          have HR' : Hid (asmP s = fillGo ps.labels ps.uses ps.words) := by
            unfold Hid
            rw [HR.out, hrd]
          have HFl := hide (fun w' (hp' : ProgAt W.heap.size (W.heap.size + 1) ps vw W.heap.size vu w') => fill_any W.heap.size (W.heap.size + 1) ps vw W.heap.size vu w' hp' hpi.us hpi.wl (by have := hpi.ul; have := hpi.wl; omega) hpi.wb (fun k x hl => hpi.lb _ (lookup_mem hl)))
          have c0 := hpa.c0
          clear hrd HG hpi hbl hpa
          go_wp2_with fail
          refine held_tail 2 1 (fun w' => w'.cell? ⟨W.heap.size + 1, 0, none⟩ = some vw) (by kernel_rfl) (by kernel_rfl) (fun d _ _ _ _ h => by cases d <;> exact h) c0 ?_
          simp only [List.take_succ_cons, List.take_zero, List.drop_succ_cons, List.drop_zero]
          iterate 2
            refine wpTake_step ?_ rfl ?_ ?_
            rotate_left
            · rintro w' d0
              go_simp
              rfl
            go_simp
          refine wpTake_nil ?_
          refine wpTail_step rfl (fun K hK => ?_)
          go_simp
          refine (unhide HFl _ HPa.out.drew).mono ?_
          rintro e w2 ⟨hpf, hcc, hres⟩
          have HB2 := hide (HBl.out.drew.trans hpf.below)
          have hsz2 : wr.heap.size ≤ w2.heap.size := hpf.below.size
          have hz2 : w.heap.size < w2.heap.size := by omega
          obtain ⟨f0, f1, f2, ff⟩ := (HFr.out.block (w' := wr.drew) rfl).block (hpf.below.block _ (by omega))
          clear hpf HFl
          rcases hres with ⟨ws, hfl, hwsl, hpa', rfl⟩ | ⟨l, c, er, hfl, her, rfl⟩
          · have HR2 : Hid (asmP s = .inl ws) := HR'.out.trans hfl
            have HOw := hide (hpa'.wd)
            clear hfl hpa'
            refine hK _ _ hcc ?_
            clear hK K
            unfold wpTailS
            go_wp2_with fail
            refine bodyPost_ret (v := .tuple #[vw, .agg #[.int .i64 0, .int .i64 0, .int .i64 0]]) (by simp [results, Tryd.results85, go_sem, f0, f1, f2]) rfl ?_
            unfold AsPost
            refine ⟨below_set3 (HBw.out.trans (HB2.out.mono HBw.out.size)) (Nat.le_refl w.heap.size) _ _ _, .inl ⟨ws, vw, HR2.out, ?_, rfl⟩⟩
            refine (ownsRow_keep HOw.out (fun g hg => ?_)).mono (Nat.le_of_lt hz')
            have hgB := (row_lt HOw.out g hg).1
            have hgne : g ≠ w.heap.size := by omega
            exact (heap_set_other _ _ hgne).trans ((heap_set_other _ _ hgne).trans (heap_set_other _ _ hgne))
          · have HR2 : Hid (asmP s = .inr (l, c, er)) := HR'.out.trans hfl
            clear hfl
            refine hK _ _ hcc ?_
            clear hK K
            unfold wpTailS
            go_wp2_with fail
            refine bodyPost_ret (v := .tuple #[vw, .agg #[.int .i64 l, .int .i64 c, .int .i64 er]]) (by simp [results, Tryd.results85, go_sem, f0, f1, f2]) rfl ?_
            unfold AsPost
            exact ⟨below_set3 (HBw.out.trans (HB2.out.mono HBw.out.size)) (Nat.le_refl w.heap.size) _ _ _, .inr ⟨_, _, _, _, HR2.out, her, rfl⟩⟩
    · have HR : Hid (asmP s = .inr (l, c, 3)) := by unfold Hid asmP; rw [if_neg hs, hcut]
      clear hcut hb1 HCut
      go_wp2_with fail
      refine still_tail 2 (by kernel_rfl) (by kernel_rfl) ?_
      simp only [List.take_succ_cons, List.take_zero, List.drop_succ_cons, List.drop_zero]
      repeat still_step
      refine wpStill_nil ?_
      go_wp2_with fail
      refine bodyPost_ret (v := .tuple #[.slice none 0 0, .agg #[.int .i64 l, .int .i64 c, .int .i64 3]]) (by simp [results, Tryd.results85, go_sem, f0, f1, f2, hz]) rfl ?_
      unfold AsPost
      refine ⟨?_, .inr ⟨_, _, _, _, HR.out, by decide, rfl⟩⟩
      have y := below_set3 HB1.out (Nat.le_refl w.heap.size) (.int .i64 l) (.int .i64 c) (.int .i64 3)
      exact (y.alloc y.size _).drew
end Go.Proofs.YtmmflekajbeamaaDoor
