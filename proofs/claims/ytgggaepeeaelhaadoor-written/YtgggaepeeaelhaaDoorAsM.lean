/-
  A line that begins with a label is read (readLine).
-/
import Derived.Test.YtgggaepeeaelhaaDoorAsL
namespace Go.Proofs.YtgggaepeeaelhaaDoor
open Go.RowKit Go.Maps Go.WideMaps

/-- Behind a store into the labels. -/
theorem ProgAt.putL {B N : Nat} {ps : PS} {vw : Value} {b : Nat} {vu : Value} {w w1 : World} (h : ProgAt B N ps vw b vu w) {D : DataW Unit} (hl : LabOK D ps.labels) (hD : IsMap D) (k : List UInt8) (v : Int) (hn : (ps.labels.lookup k).isSome = false)
    (ho : w1.ownsMap Tryd.prog 9 (plainElem Tryd.prog 3) b (ps.labels.length + 1) (D.put (.string k) (.lit (.int .i64 v)))) (hg : w.grownBy w1 (some b)) :
    ProgAt B N { ps with labels := ps.labels ++ [(k, v)] } vw b vu w1 ∧ PFr B N b vw vu vw vu w w1 := by
  obtain ⟨a1, a2, a3, a4⟩ := h.apart
  have hk : ∀ g, g < w.heap.size → g ≠ b → w1.heap[g]? = w.heap[g]? := fun g hlt hne => hg.block g hlt (fun e => hne (Option.some.inj e))
  have hN := hk N h.nlt a1
  refine ⟨⟨(World.cell?_of_block hN).trans h.c0, (World.cell?_of_block hN).trans h.c1, (World.cell?_of_block hN).trans h.c2, fun i => (World.frozen?_of_block hN).trans (h.fz i), h.bN, h.bb, h.nw, h.nu,
    ownsRow_keep h.wd (fun g hg' => hk g (row_lt h.wd g hg').2 (fun e => a2 (e ▸ hg'))), ownsRow_keep h.us (fun g hg' => hk g (row_lt h.us g hg').2 (fun e => a3 (e ▸ hg'))), _, by rw [List.length_append, List.length_singleton]; exact ho, lab_put hl hD k v hn⟩,
    ⟨(Below.refl _ _).grown hg (Nat.le_trans h.bN (Nat.le_of_lt h.nlt)) (fun j hj => by cases hj; exact h.bb), fun g hlt hni => hk g hlt (fun e => hni (.inr (.inl e))), fun g hi => .inl hi⟩⟩

set_option maxRecDepth 100000 in
set_option maxHeartbeats 4000000 in
theorem readLine_lab (B N : Nat) (ps : PS) (vw : Value) (b : Nat) (vu : Value) (v : Value) (t : Tok) (ts : List Tok) (w : World) (h : ProgAt B N ps vw b vu w) (ht : Tab w) (hsl : SlAt w v (t :: ts)) (hlow : ∀ a m c, v = .slice (some a) m c → a.block < B)
    (hpl : ts.length + 1 ≤ 5000) (hts : ∀ t' ∈ t :: ts, 1 ≤ t'.text.size ∧ t'.text.size ≤ 2000) (hwl : ps.words.length ≤ 128) (hul : ps.uses.length + 3 ≤ 5000) (hll : ps.labels.length ≤ 5000) (hlab : labB t = true) :
    Calls Tryd.prog 124 #[.pointer (some ⟨N, 0, none⟩), v] w (RdPost B N b vw vu w (rdLine ps (t :: ts))) := by
  obtain ⟨a, cap, rfl, hcap, hrow⟩ := hsl
  obtain ⟨g, off, rfl, hr⟩ := hrow (by simp)
  obtain ⟨wa, wc, rfl⟩ := owns_len h.wd
  have hgB : g < B := hlow _ _ _ rfl
  have hBw : B ≤ w.heap.size := Nat.le_trans h.bN (Nat.le_of_lt h.nlt)
  have hgw : g < w.heap.size := by omega
  obtain ⟨t0, t1, t2, t3, t4⟩ := hr 0 t (by simp)
  simp only [Nat.zero_mul, Nat.add_zero] at t0 t1 t2 t3 t4
  have hcap' : ts.length + 1 ≤ cap := hcap
  have hsl1 := slice1 g off ts.length cap
  unfold tailV at hsl1
  obtain ⟨off', hoff⟩ : ∃ o, o = (if cap = 1 then off else off + 5) := ⟨_, rfl⟩
  rw [← hoff] at hsl1
  have HRest : Hid (ts ≠ [] → ∀ (i : Nat) (u : Tok), ts[i]? = some u → RowAt w g (off' + i * 5) u) := fun hne i u hi => by
    have := hr (i + 1) u (by simpa using hi)
    have hl : 0 < ts.length := List.length_pos_iff.2 hne
    rw [show off + (i + 1) * 5 = off' + i * 5 by rw [hoff, if_neg (by omega)]; omega] at this
    exact this
  have hml : t.text.size ≤ maxLen := by have := (hts t (by simp)).2; unfold maxLen; omega
  have hnl : (labN t).size ≤ maxLen := by have := (hts t (by simp)).2; unfold labN; rw [ByteArray.size_extract]; unfold maxLen; omega
  have ht1 := (hts t (by simp)).1
  have hlab' := hlab
  unfold labB at hlab'
  rw [Bool.and_eq_true] at hlab'
  obtain ⟨hc, hnm⟩ := hlab'
  have HNm : Hid (∀ w', Below w.heap.size w w' → Calls Tryd.prog 157 #[.string (labN t)] w' fun e' w'' => e' = .returned (.bool true) ∧ Below w'.heap.size w' w'') := fun w' hb => by
    have := isName_any (labN t) w' (ht.below ht.pos hb) hnl
    rw [hnm] at this
    exact this
  have HCS : Hid (∀ w', Calls Tryd.prog 156 #[.string t.text, .string ⟨#[58]⟩] w' fun e' w'' => e' = .returned (.tuple #[.string (labN t), .bool true]) ∧ w'' = w') := fun w' => cutSuffix_yes t.text w' hml ht1 hc
  have HR : Hid (rdLine ps (t :: ts) = if (ps.labels.lookup (labN t).data.toList).isSome = true then .inr (t.fl, t.fc, 6) else rdRest { ps with labels := ps.labels ++ [((labN t).data.toList, (ps.words.length : Int))] } ts) := by unfold Hid; rw [rdLine, if_pos hlab]
  have hkey : keyOf Tryd.prog 9 (.string (labN t)) = some (.string (labN t).data.toList) := keyOf_string_mk Tryd.underlying9 hnl
  have HP := hide h
  have HTs := hide hts
  have HKey := hide hkey
  clear h hr hrow hlow hts hlab hc hnm ht1 hml hkey hnl
  generalize labN t = nm at *
  go_enter Tryd.func124, Tryd.ntmps124
  go_wp2_with fail
  refine (unhide HCS _).mono ?_
  rintro e w' ⟨rfl, hw⟩
  obtain rfl := hw.symm
  go_wp2_with fail
  refine (unhide HNm _ ((Below.refl _ _).alloc (Nat.le_refl _) _)).mono ?_
  rintro e w1 ⟨rfl, hb1⟩
  have HB1 : Hid (Below w.heap.size w w1) := ((Below.refl _ _).alloc (Nat.le_refl _) _).trans (hb1.mono (by rw [size_alloc1]; omega))
  have HF1 := hide ((F0.new w).block (hb1.block w.heap.size (by rw [size_alloc1]; omega)))
  have hz : w.heap.size < w1.heap.size := block_lt_of_cell HF1.out.f0
  have u0 := (below_cell' HB1.out g _ hgw).trans t0
  have u1 := (below_cell' HB1.out g _ hgw).trans t1
  have u2 := (below_cell' HB1.out g _ hgw).trans t2
  have HP1 := hide (HP.out.above HB1.out)
  have c0 := HP1.out.c0
  have c1 := HP1.out.c1
  obtain ⟨D, hown, hlok⟩ := HP1.out.mp
  have hD := hown.isMap
  have hhas := (hlok nm.data.toList).1
  have HOwn := hide hown
  have HLok := hide hlok
  have HD := hide hD
  clear hb1 t0 t1 t2 t3 t4 hown hlok hD HCS HNm
  cases hfnd : (ps.labels.lookup nm.data.toList).isSome
  · rw [hfnd] at hhas
    have HH := hide hhas
    clear hhas
    go_wp2_with (at_lookup; refine wpList_lookup_own_ok_int _ rfl _ _ 173 rfl 9 3 .i64 lawS Tryd.underlying173 Tryd.underlying3 (zeroI _) b ps.labels.length D rfl HOwn.out _ _ rfl HKey.out ?_; intro cc hat hwc; rw [HH.out]; clear hat hwc)
    refine still_tail 10 (by kernel_rfl) (by kernel_rfl) ?_
    simp only [List.take_succ_cons, List.take_zero, List.drop_succ_cons, List.drop_zero]
    repeat still_step
    refine wpStill_nil ?_
    have hnf : ¬ (ps.labels.lookup nm.data.toList).isSome = true := by rw [hfnd]; decide
    rw [if_neg hnf] at HR
    have HOd := hide (HOwn.out.drew)
    have HPd := hide (HP1.out.drew)
    have hll' : ps.labels.length < maxLen := by unfold maxLen; omega
    have hw64 : (Lit.int .i64 (ps.words.length : Int)).wf = true := by
      refine WalkArith.wf_i64 ?_ <;> omega
    have hni : ¬ InP N (.slice wa ps.words.length wc) b vu w.heap.size := fun hi => by have := (HP.out.inlt hi).2; omega
    have HAft : Hid (∀ w3, w3.ownsMap Tryd.prog 9 (plainElem Tryd.prog 3) b (ps.labels.length + 1) (D.put (.string nm.data.toList) (.lit (.int .i64 (ps.words.length : Int)))) → w1.drew.grownBy w3 (some b) →
        ProgAt B N { ps with labels := ps.labels ++ [(nm.data.toList, (ps.words.length : Int))] } (.slice wa ps.words.length wc) b vu w3 ∧ PFr B N b (.slice wa ps.words.length wc) vu (.slice wa ps.words.length wc) vu w w3 ∧ F0 w3 w.heap.size ∧ ∀ j, w3.cell? ⟨g, j, none⟩ = w.cell? ⟨g, j, none⟩) := fun w3 ho hg => by
      obtain ⟨q1, q2⟩ := HPd.out.putL HLok.out HD.out nm.data.toList (ps.words.length : Int) hfnd ho hg
      have q3 : PFr B N b (.slice wa ps.words.length wc) vu (.slice wa ps.words.length wc) vu w w3 := (PFr.of_below hBw HB1.out.drew).trans q2
      exact ⟨q1, q3, (HF1.out.block (w' := w1.drew) rfl).block (q2.out w.heap.size hz hni), fun j => below_cell' q3.below g j hgB⟩
    clear hfnd hnf HH u0 u1 u2 hsl1
    rcases ts with _ | ⟨hd, tl⟩
    · have HR' : Hid (rdLine ps [t] = .inl { ps with labels := ps.labels ++ [(nm.data.toList, (ps.words.length : Int))] }) := HR
      clear HRest hoff
      by_cases hc1 : cap = 1
      · subst hc1
        go_wp2_with (at_mapUpdate; refine wpList_mapUpdate_own _ rfl _ _ _ 173 rfl 9 3 lawS Tryd.underlying173 _ b ps.labels.length D rfl HOd.out hll' _ _ (.string nm.data.toList) rfl rfl HKey.out (.lit (.int .i64 (ps.words.length : Int))) [] (plainElem_int Tryd.underlying3 hw64) ?_; intro w3 hown3 hgr3; have H3 := hide (HAft.out w3 hown3 hgr3); clear hown3 hgr3; obtain ⟨f0, f1, f2, ff⟩ := H3.out.2.2.1; have kc := H3.out.2.2.2)
        refine bodyPost_ret (v := .agg #[.int .i64 0, .int .i64 0, .int .i64 0]) (by simp [results, Tryd.results124, go_sem, f0, f1, f2]) rfl ?_
        unfold RdPost
        exact ⟨_, _, pfr_set3 H3.out.2.1 hBw (Nat.le_refl _) _ _ _, .inl ⟨_, HR'.out, ((H3.out.1.setOut hni 0 _).setOut hni 1 _).setOut hni 2 _, rfl⟩⟩
      · go_wp2_with (at_mapUpdate; refine wpList_mapUpdate_own _ rfl _ _ _ 173 rfl 9 3 lawS Tryd.underlying173 _ b ps.labels.length D rfl HOd.out hll' _ _ (.string nm.data.toList) rfl rfl HKey.out (.lit (.int .i64 (ps.words.length : Int))) [] (plainElem_int Tryd.underlying3 hw64) ?_; intro w3 hown3 hgr3; have H3 := hide (HAft.out w3 hown3 hgr3); clear hown3 hgr3; obtain ⟨f0, f1, f2, ff⟩ := H3.out.2.2.1; have kc := H3.out.2.2.2)
        refine bodyPost_ret (v := .agg #[.int .i64 0, .int .i64 0, .int .i64 0]) (by simp [results, Tryd.results124, go_sem, f0, f1, f2]) rfl ?_
        unfold RdPost
        exact ⟨_, _, pfr_set3 H3.out.2.1 hBw (Nat.le_refl _) _ _ _, .inl ⟨_, HR'.out, ((H3.out.1.setOut hni 0 _).setOut hni 1 _).setOut hni 2 _, rfl⟩⟩
    · have HR' : Hid (rdLine ps (t :: hd :: tl) = rdIns { ps with labels := ps.labels ++ [(nm.data.toList, (ps.words.length : Int))] } hd tl) := HR
      have hc1 : ¬ cap = 1 := by simp at hcap'; omega
      rw [if_neg hc1] at hoff
      subst hoff
      obtain ⟨v0, v1, v2, v3, v4⟩ := HRest.out (by simp) 0 hd (by simp)
      simp only [Nat.zero_mul, Nat.add_zero] at v0 v1 v2 v3 v4
      go_wp2_with (at_mapUpdate; refine wpList_mapUpdate_own _ rfl _ _ _ 173 rfl 9 3 lawS Tryd.underlying173 _ b ps.labels.length D rfl HOd.out hll' _ _ (.string nm.data.toList) rfl rfl HKey.out (.lit (.int .i64 (ps.words.length : Int))) [] (plainElem_int Tryd.underlying3 hw64) ?_; intro w3 hown3 hgr3; have H3 := hide (HAft.out w3 hown3 hgr3); clear hown3 hgr3; obtain ⟨f0, f1, f2, ff⟩ := H3.out.2.2.1; have kc := H3.out.2.2.2; have x0 := (kc _).trans v0; have x1 := (kc _).trans v1; have x2 := (kc _).trans v2; have x3 := (kc _).trans v3; have x4 := (kc _).trans v4)
      have hsl2 := slice1 g (off + 5) tl.length (cap - 1)
      have HIns : Hid (Calls Tryd.prog 158 #[.pointer (some ⟨N, 0, none⟩), .agg (tokC hd).toArray, tailV g (off + 5) tl.length (cap - 1)] w3.drew (RdPost B N b (.slice wa ps.words.length wc) vu w3.drew (rdIns { ps with labels := ps.labels ++ [(nm.data.toList, (ps.words.length : Int))] } hd tl))) := by
        refine readIns_any B N _ _ b vu hd _ tl w3.drew H3.out.1.drew (ht.below (Nat.lt_of_le_of_lt (Nat.zero_le _) hgB) H3.out.2.1.below.drew) ⟨_, _, rfl, by simp at hcap'; omega, fun hne => ⟨g, _, rfl, fun i u hi => ?_⟩⟩ (fun a m c e => by unfold tailV at e; cases e; exact hgB) (by simp at hpl; omega) (fun u hu => by have := (HTs.out u (by simp [hu])).2; unfold maxLen; omega) hwl hul
        have := HRest.out (by simp) (i + 1) u (by simpa using hi)
        have hl : 0 < tl.length := List.length_pos_iff.2 hne
        rw [show off + 5 + (i + 1) * 5 = (if cap - 1 = 1 then off + 5 else off + 5 + 5) + i * 5 by rw [if_neg (by simp at hcap'; omega)]; omega] at this
        exact ⟨(kc _).trans this.r0, (kc _).trans this.r1, (kc _).trans this.r2, (kc _).trans this.r3, (kc _).trans this.r4⟩
      simp only [tokC] at HIns
      refine still_tail 6 (by kernel_rfl) (by kernel_rfl) ?_
      simp only [List.take_succ_cons, List.take_zero, List.drop_succ_cons, List.drop_zero]
      repeat still_step
      refine wpStill_nil ?_
      have hz3 : w.heap.size < w3.heap.size := block_lt_of_cell f0
      go_wp2_with fail
      refine (unhide HIns).mono ?_
      intro e w2 h2
      obtain ⟨x, y, z, rfl, hf2, hpost⟩ := rd_back (F := w.heap.size) (H3.out.2.1.above (Nat.le_trans hBw (Nat.le_of_lt hz3)) (Below.refl _ _).drew) hBw (Nat.le_refl _) hz3 hni (H3.out.2.2.1.block rfl) h2
      clear f0 f1 f2 ff
      obtain ⟨f0, f1, f2, ff⟩ := hf2
      have HPost := hide hpost
      clear hpost h2 x0 x1 x2 x3 x4 hsl2 HIns kc H3
      go_wp2_with fail
      refine bodyPost_ret (v := .agg #[.int .i64 x, .int .i64 y, .int .i64 z]) (by simp [results, Tryd.results124, go_sem, f0, f1, f2]) rfl ?_
      rw [HR'.out]
      exact HPost.out
  · rw [hfnd] at hhas HR
    have HH := hide hhas
    clear hhas
    rw [if_pos rfl] at HR
    obtain ⟨f0, f1, f2, ff⟩ := HF1.out
    go_wp2_with (at_lookup; refine wpList_lookup_own_ok_int _ rfl _ _ 173 rfl 9 3 .i64 lawS Tryd.underlying173 Tryd.underlying3 (zeroI _) b ps.labels.length D rfl HOwn.out _ _ rfl HKey.out ?_; intro cc hat hwc; rw [HH.out]; clear hat hwc)
    refine bodyPost_ret (v := .agg #[.int .i64 t.fl, .int .i64 t.fc, .int .i64 6]) (by simp [results, Tryd.results124, go_sem, f0, f1, f2]) rfl ?_
    unfold RdPost
    exact ⟨_, _, PFr.of_below hBw (below_set3 HB1.out (Nat.le_refl _) _ _ _), .inr ⟨_, _, _, HR.out, by decide, rfl⟩⟩
end Go.Proofs.YtgggaepeeaelhaaDoor
