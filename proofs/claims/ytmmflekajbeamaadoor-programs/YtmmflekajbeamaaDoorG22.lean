/-
  A line is read (readLine).
  A line that begins with a label is read (readLine).
-/
import Derived.Test.YtmmflekajbeamaaDoorG18
namespace Go.Proofs.YtmmflekajbeamaaDoor
open Go.RowKit Go.Maps

theorem lawS : Keyed Tryd.prog 9 := string_keyed Tryd.underlying9
theorem zeroI (w : World) : (zeroValue 3).run Tryd.prog w = .ok (.int .i64 0) w := by kernel_rfl

theorem lab_put {D : DataW Unit} {l : List (List UInt8 × Int)} (h : LabOK D l) (hD : IsMap D) (k : List UInt8) (v : Int) (hn : (l.lookup k).isSome = false) : LabOK (D.put (.string k) (.lit (.int .i64 v))) (l ++ [(k, v)]) := by
  have hl : l.lookup k = none := by cases hq : l.lookup k with | none => rfl | some x => rw [hq] at hn; cases hn
  have la : ∀ k', (l ++ [(k, v)]).lookup k' = (l.lookup k').or (if k' == k then some v else none) := by
    intro k'
    rw [List.lookup_append]
    congr 1
    unfold List.lookup
    cases k' == k <;> rfl
  intro k'
  rw [la]
  by_cases hk : k' = k
  · subst hk
    rw [hl]
    simp only [beq_self_eq_true, if_true, Option.none_or]
    exact ⟨Maps.has_put_same hD (by trivial) _, fun v' hv => by cases hv; exact Maps.atKey_put_same hD (by trivial) _ _⟩
  · have hb : (k' == k) = false := by rw [beq_eq_false_iff_ne]; exact hk
    have hne : Lit.string k' ≠ Lit.string k := fun e => hk (by cases e; rfl)
    rw [hb]
    simp only [Bool.false_eq_true, if_false, Option.or_none]
    obtain ⟨h1, h2⟩ := h k'
    exact ⟨(Maps.has_put_other hne _).trans h1, fun v' hv => (Maps.atKey_put_other hne _ _).trans (h2 v' hv)⟩

/-- The rest of a slice of tokens, behind the first. -/
def tailV (g off n cap : Nat) : Value := .slice (some ⟨g, if cap = 1 then off else off + 5, none⟩) n (cap - 1)
set_option maxRecDepth 100000 in
theorem slice1 (g off n cap : Nat) (w : World) : (Instr.slice 177 (.slice (some ⟨g, off, none⟩) (n + 1) cap) (some (.int .i64 1)) none none).run Tryd.prog w = .ok (tailV g off n cap) w := by
  have hs : (sizeOf 209).run Tryd.prog w = .ok 5 w := by kernel_rfl
  have he : Tryd.prog.elem 177 = 209 := by kernel_rfl
  have hu : Tryd.prog.underlying 177 = some (.slice (Tryd.prog.elem 177)) := by rw [he]; exact Tryd.underlying177
  rw [run_slice_l (P := Tryd.prog) w _ _ _ _ hu .i64 1 (by decide) (by omega), he, hs]
  simp only [Result.andThen, sliced, tailV]
  congr 1
  by_cases hc : cap = 1
  · rw [if_pos hc, if_pos (by simpa using hc)]
    rfl
  · rw [if_neg hc, if_neg (by simpa using hc)]
    rfl

/-- The cells of a fault, all nought, that may be written. -/
structure F0 (w : World) (F : Nat) : Prop where
  f0 : w.cell? ⟨F, 0, none⟩ = some (.int .i64 0)
  f1 : w.cell? ⟨F, 1, none⟩ = some (.int .i64 0)
  f2 : w.cell? ⟨F, 2, none⟩ = some (.int .i64 0)
  ff : ∀ j, w.frozen? ⟨F, j, none⟩ = false
theorem F0.block {w w' : World} {F : Nat} (h : F0 w F) (hb : w'.heap[F]? = w.heap[F]?) : F0 w' F :=
  ⟨(World.cell?_of_block hb).trans h.f0, (World.cell?_of_block hb).trans h.f1, (World.cell?_of_block hb).trans h.f2, fun j => (World.frozen?_of_block hb).trans (h.ff j)⟩
theorem F0.new (w : World) : F0 (w.alloc (.cells #[.int .i64 0, .int .i64 0, .int .i64 0] 116)) w.heap.size := by
  refine ⟨?_, ?_, ?_, fun j => ?_⟩
  iterate 3
    · rw [World.cell?_alloc_at (hn := rfl)]; rfl
  · rw [World.frozen?_alloc_at (hn := rfl)]
/-- Behind a call that reads a part of the text its fault is laid into the caller's own. -/
theorem rd_back {B N b : Nat} {vw vu vw1 vu1 : Value} {w w1 w2 : World} {r : PS ⊕ (Int × Int × Int)} {e' : Ending} (hp : PFr B N b vw vu vw1 vu1 w w1) {F : Nat} (hB : B ≤ F) (hF : w.heap.size ≤ F) (hlt : F < w1.heap.size) (hni : ¬ InP N vw1 b vu1 F) (hf : F0 w1 F)
    (h : RdPost B N b vw1 vu1 w1 r e' w2) : ∃ x y z : Int, e' = .returned (.agg #[.int .i64 x, .int .i64 y, .int .i64 z]) ∧ F0 w2 F ∧
      RdPost B N b vw vu w r (.returned (.agg #[.int .i64 x, .int .i64 y, .int .i64 z])) (((w2.setCell ⟨F, 0, none⟩ (.int .i64 x)).setCell ⟨F, 1, none⟩ (.int .i64 y)).setCell ⟨F, 2, none⟩ (.int .i64 z)) := by
  obtain ⟨vw2, vu2, hp2, h⟩ := h
  have hf2 := hf.block (hp2.out F hlt hni)
  have hni2 : ¬ InP N vw2 b vu2 F := fun hi => by
    rcases hp2.new F hi with h1 | h1
    · exact hni h1
    · omega
  rcases h with ⟨ps', rfl, hpa, rfl⟩ | ⟨l, c, e, rfl, he, rfl⟩
  · exact ⟨0, 0, 0, rfl, hf2, vw2, vu2, pfr_set3 (hp.trans hp2) hB hF _ _ _, .inl ⟨ps', rfl, ((hpa.setOut hni2 0 _).setOut hni2 1 _).setOut hni2 2 _, rfl⟩⟩
  · exact ⟨l, c, e, rfl, hf2, vw2, vu2, pfr_set3 (hp.trans hp2) hB hF _ _ _, .inr ⟨l, c, e, rfl, he, rfl⟩⟩

set_option maxRecDepth 100000 in
set_option maxHeartbeats 2000000 in
theorem readLine_nil (B N : Nat) (ps : PS) (vw : Value) (b : Nat) (vu : Value) (v : Value) (w : World) (h : ProgAt B N ps vw b vu w) (hsl : SlAt w v []) :
    Calls Tryd.prog 124 #[.pointer (some ⟨N, 0, none⟩), v] w (RdPost B N b vw vu w (rdLine ps [])) := by
  obtain ⟨a, cap, rfl, _, _⟩ := hsl
  have hBw : B ≤ w.heap.size := Nat.le_trans h.bN (Nat.le_of_lt h.nlt)
  have HP := hide h
  clear h
  go_enter Tryd.func124, Tryd.ntmps124
  go_wp2_with fail
  refine bodyPost_ret (v := .agg #[.int .i64 0, .int .i64 0, .int .i64 0]) (by simp [results, Tryd.results124, go_sem]) rfl ?_
  unfold RdPost
  exact ⟨vw, vu, PFr.of_below hBw ((Below.refl _ _).alloc (Nat.le_refl _) _), .inl ⟨ps, rfl, HP.out.alloc _, rfl⟩⟩

set_option maxRecDepth 100000 in
set_option maxHeartbeats 2000000 in
theorem readLine_nolab (B N : Nat) (ps : PS) (vw : Value) (b : Nat) (vu : Value) (v : Value) (t : Tok) (ts : List Tok) (w : World) (h : ProgAt B N ps vw b vu w) (ht : Tab w) (hsl : SlAt w v (t :: ts)) (hlow : ∀ a m c, v = .slice (some a) m c → a.block < B)
    (hpl : ts.length + 1 ≤ 5000) (hts : ∀ t' ∈ t :: ts, 1 ≤ t'.text.size ∧ t'.text.size ≤ 2000) (hwl : ps.words.length ≤ 128) (hul : ps.uses.length + 3 ≤ 5000) (hlab : labB t = false) :
    Calls Tryd.prog 124 #[.pointer (some ⟨N, 0, none⟩), v] w (RdPost B N b vw vu w (rdLine ps (t :: ts))) := by
  obtain ⟨a, cap, rfl, hcap, hrow⟩ := hsl
  obtain ⟨g, off, rfl, hr⟩ := hrow (by simp)
  have hgB : g < B := hlow _ _ _ rfl
  have hBw : B ≤ w.heap.size := Nat.le_trans h.bN (Nat.le_of_lt h.nlt)
  have hgw : g < w.heap.size := by omega
  obtain ⟨t0, t1, t2, t3, t4⟩ := hr 0 t (by simp)
  simp only [Nat.zero_mul, Nat.add_zero] at t0 t1 t2 t3 t4
  have hcap' : ts.length + 1 ≤ cap := hcap
  have hsl1 := slice1 g off ts.length cap
  have HRest : Hid (∀ w', Below B w w' → SlAt w' (tailV g off ts.length cap) ts) := fun w' hb =>
    ⟨_, _, rfl, by omega, fun hne => ⟨g, _, rfl, fun i u hi => by
      have := hr (i + 1) u (by simpa using hi)
      have hl : 0 < ts.length := List.length_pos_iff.2 hne
      rw [show off + (i + 1) * 5 = (if cap = 1 then off else off + 5) + i * 5 by rw [if_neg (by omega)]; omega] at this
      exact ⟨(below_cell' hb g _ hgB).trans this.r0, (below_cell' hb g _ hgB).trans this.r1, (below_cell' hb g _ hgB).trans this.r2, (below_cell' hb g _ hgB).trans this.r3, (below_cell' hb g _ hgB).trans this.r4⟩⟩⟩
  have HP := hide h
  have HTs := hide hts
  obtain ⟨ht1, ht2⟩ := hts t (by simp)
  clear h hr hrow hlow hts
  have HR : Hid (rdLine ps (t :: ts) = rdIns ps t ts) := by unfold Hid; rw [rdLine, hlab]; rfl
  have HIns : Hid (∀ w', Below w.heap.size w w' → Calls Tryd.prog 158 #[.pointer (some ⟨N, 0, none⟩), .agg (tokC t).toArray, tailV g off ts.length cap] w' (RdPost B N b vw vu w' (rdIns ps t ts))) := fun w' hb =>
    readIns_any B N ps vw b vu t _ ts w' (HP.out.above hb) (ht.below ht.pos hb) (HRest.out w' (hb.mono hBw)) (fun a m c e => by unfold tailV at e; cases e; exact hgB) (by omega) (fun u hu => by have := (HTs.out u (by simp [hu])).2; unfold maxLen; omega) hwl hul
  have hml : t.text.size ≤ maxLen := by unfold maxLen; omega
  have HNm : Hid (∀ w', Below w.heap.size w w' → Calls Tryd.prog 157 #[.string (labN t)] w' fun e' w'' => e' = .returned (.bool (nmI (labN t))) ∧ Below w'.heap.size w' w'') := fun w' hb =>
    isName_any (labN t) w' (ht.below ht.pos hb) (by unfold labN; rw [ByteArray.size_extract]; unfold maxLen; omega)
  simp only [tokC] at HIns
  cases hc : colB t.text.data.toList
  · have HCS := hide (fun w' => cutSuffix_no t.text w' hml ht1 hc)
    clear hc hlab
    go_enter Tryd.func124, Tryd.ntmps124
    go_wp2_with fail
    refine (unhide HCS _).mono ?_
    rintro e w' ⟨rfl, hw⟩
    obtain rfl := hw.symm
    go_wp2_with fail
    refine still_tail 6 (by kernel_rfl) (by kernel_rfl) ?_
    simp only [List.take_succ_cons, List.take_zero, List.drop_succ_cons, List.drop_zero]
    repeat still_step
    refine wpStill_nil ?_
    go_wp2_with fail
    refine (unhide HIns _ ((Below.refl _ _).alloc (Nat.le_refl _) _).drew).mono ?_
    intro e w2 h2
    obtain ⟨x, y, z, rfl, hf2, hpost⟩ := rd_back (F := w.heap.size) (PFr.of_below hBw ((Below.refl _ _).alloc (Nat.le_refl _) _).drew) hBw (Nat.le_refl _) (by show w.heap.size < (w.alloc _).heap.size; rw [size_alloc1]; omega) (fun hi => by have := (HP.out.inlt hi).2; omega) ((F0.new w).block rfl) h2
    obtain ⟨f0, f1, f2, ff⟩ := hf2
    have HPost := hide hpost
    clear hpost h2 t0 t1 t2 t3 t4 hsl1 HIns HCS HNm
    go_wp2_with fail
    refine bodyPost_ret (v := .agg #[.int .i64 x, .int .i64 y, .int .i64 z]) (by simp [results, Tryd.results124, go_sem, f0, f1, f2]) rfl ?_
    rw [HR.out]
    exact HPost.out
  · have hnm : nmI (labN t) = false := by unfold labB at hlab; rw [hc] at hlab; exact hlab
    have HCS := hide (fun w' => cutSuffix_yes t.text w' hml ht1 hc)
    rw [hnm] at HNm
    clear hc hlab hnm
    go_enter Tryd.func124, Tryd.ntmps124
    go_wp2_with fail
    refine (unhide HCS _).mono ?_
    rintro e w' ⟨rfl, hw⟩
    obtain rfl := hw.symm
    have HNm' : Hid (∀ w', Below w.heap.size w w' → Calls Tryd.prog 157 #[.string (t.text.extract 0 (t.text.size - 1))] w' fun e' w'' => e' = .returned (.bool false) ∧ Below w'.heap.size w' w'') := HNm
    go_wp2_with fail
    refine (unhide HNm' _ ((Below.refl _ _).alloc (Nat.le_refl _) _)).mono ?_
    rintro e w1 ⟨rfl, hb1⟩
    have HB1 : Hid (Below w.heap.size w w1) := ((Below.refl _ _).alloc (Nat.le_refl _) _).trans (hb1.mono (by rw [size_alloc1]; omega))
    have HF1 := hide ((F0.new w).block (hb1.block w.heap.size (by rw [size_alloc1]; omega)))
    have hz : w.heap.size < w1.heap.size := block_lt_of_cell HF1.out.f0
    have u0 := (below_cell' HB1.out g _ hgw).trans t0
    have u1 := (below_cell' HB1.out g _ hgw).trans t1
    have u2 := (below_cell' HB1.out g _ hgw).trans t2
    have u3 := (below_cell' HB1.out g _ hgw).trans t3
    have u4 := (below_cell' HB1.out g _ hgw).trans t4
    clear hb1 t0 t1 t2 t3 t4
    go_wp2_with fail
    refine still_tail 6 (by kernel_rfl) (by kernel_rfl) ?_
    simp only [List.take_succ_cons, List.take_zero, List.drop_succ_cons, List.drop_zero]
    repeat still_step
    refine wpStill_nil ?_
    go_wp2_with fail
    refine (unhide HIns _ HB1.out.drew).mono ?_
    intro e w2 h2
    obtain ⟨x, y, z, rfl, hf2, hpost⟩ := rd_back (F := w.heap.size) (PFr.of_below hBw HB1.out.drew) hBw (Nat.le_refl _) hz (fun hi => by have := (HP.out.inlt hi).2; omega) (HF1.out.block rfl) h2
    obtain ⟨f0, f1, f2, ff⟩ := hf2
    have HPost := hide hpost
    clear hpost h2 u0 u1 u2 u3 u4 hsl1 HIns HCS HNm HNm'
    go_wp2_with fail
    refine bodyPost_ret (v := .agg #[.int .i64 x, .int .i64 y, .int .i64 z]) (by simp [results, Tryd.results124, go_sem, f0, f1, f2]) rfl ?_
    rw [HR.out]
    exact HPost.out
end Go.Proofs.YtmmflekajbeamaaDoor

namespace Go.Proofs.YtmmflekajbeamaaDoor
open Go.RowKit Go.Maps Go.WideMaps

/-- Behind a store into the labels. -/
theorem ProgAt.putL {B N : Nat} {ps : PS} {vw : Value} {b : Nat} {vu : Value} {w w1 : World} (h : ProgAt B N ps vw b vu w) {D : DataW Unit} (hl : LabOK D ps.labels) (hD : IsMap D) (k : List UInt8) (v : Int) (hn : (ps.labels.lookup k).isSome = false)
    (ho : w1.ownsMap Tryd.prog 9 (plainElem Tryd.prog 3) b (ps.labels.length + 1) (D.put (.string k) (.lit (.int .i64 v)))) (hg : w.grownBy w1 (some b)) :
    ProgAt B N { ps with labels := ps.labels ++ [(k, v)] } vw b vu w1 ∧ PFr B N b vw vu vw vu w w1 := by
  obtain ⟨a1, a2, a3, a4⟩ := h.apart
  have hk : ∀ g, g < w.heap.size → g ≠ b → w1.heap[g]? = w.heap[g]? := fun g hlt hne => hg.block g hlt (fun e => hne (Option.some.inj e))
  have hN := hk N h.nlt a1
  refine ⟨⟨(World.cell?_of_block hN).trans h.c0, (World.cell?_of_block hN).trans h.c1, (World.cell?_of_block hN).trans h.c2, fun i => (World.frozen?_of_block hN).trans (h.fz i), h.bN, h.bb, h.nw, h.nu,
    ownsRow_keep h.wd (fun g hg' => hk g (row_lt h.wd g hg').2 (fun e => a2 (e ▸ hg'))), ownsRow_keep h.us (fun g hg' => hk g (row_lt h.us g hg').2 (fun e => a3 (e ▸ hg'))), _, by rw [List.length_append, List.length_singleton]; exact ho, lab_put hl hD k v hn⟩,
    ⟨(Below.refl _ _).grown hg (Nat.le_trans h.bN (Nat.le_of_lt h.nlt)) (fun j hj => by cases hj; exact h.bb), fun g hlt hni => hk g hlt (fun e => hni (.inr (.inl e))), fun g hi => .inl hi⟩⟩

set_option maxRecDepth 100000 in
set_option maxHeartbeats 4000000 in
theorem readLine_lab (B N : Nat) (ps : PS) (vw : Value) (b : Nat) (vu : Value) (v : Value) (t : Tok) (ts : List Tok) (w : World) (h : ProgAt B N ps vw b vu w) (ht : Tab w) (hsl : SlAt w v (t :: ts)) (hlow : ∀ a m c, v = .slice (some a) m c → a.block < B)
    (hpl : ts.length + 1 ≤ 5000) (hts : ∀ t' ∈ t :: ts, 1 ≤ t'.text.size ∧ t'.text.size ≤ 2000) (hwl : ps.words.length ≤ 128) (hul : ps.uses.length + 3 ≤ 5000) (hll : ps.labels.length ≤ 5000) (hlab : labB t = true) :
    Calls Tryd.prog 124 #[.pointer (some ⟨N, 0, none⟩), v] w (RdPost B N b vw vu w (rdLine ps (t :: ts))) := by
  obtain ⟨a, cap, rfl, hcap, hrow⟩ := hsl
  obtain ⟨g, off, rfl, hr⟩ := hrow (by simp)
  obtain ⟨wa, wc, rfl⟩ := owns_len h.wd
  have hgB : g < B := hlow _ _ _ rfl
  have hBw : B ≤ w.heap.size := Nat.le_trans h.bN (Nat.le_of_lt h.nlt)
  have hgw : g < w.heap.size := by omega
  obtain ⟨t0, t1, t2, t3, t4⟩ := hr 0 t (by simp)
  simp only [Nat.zero_mul, Nat.add_zero] at t0 t1 t2 t3 t4
  have hcap' : ts.length + 1 ≤ cap := hcap
  have hsl1 := slice1 g off ts.length cap
  unfold tailV at hsl1
  obtain ⟨off', hoff⟩ : ∃ o, o = (if cap = 1 then off else off + 5) := ⟨_, rfl⟩
  rw [← hoff] at hsl1
  have HRest : Hid (ts ≠ [] → ∀ (i : Nat) (u : Tok), ts[i]? = some u → RowAt w g (off' + i * 5) u) := fun hne i u hi => by
    have := hr (i + 1) u (by simpa using hi)
    have hl : 0 < ts.length := List.length_pos_iff.2 hne
    rw [show off + (i + 1) * 5 = off' + i * 5 by rw [hoff, if_neg (by omega)]; omega] at this
    exact this
  have hml : t.text.size ≤ maxLen := by have := (hts t (by simp)).2; unfold maxLen; omega
  have hnl : (labN t).size ≤ maxLen := by have := (hts t (by simp)).2; unfold labN; rw [ByteArray.size_extract]; unfold maxLen; omega
  have ht1 := (hts t (by simp)).1
  have hlab' := hlab
  unfold labB at hlab'
  rw [Bool.and_eq_true] at hlab'
  obtain ⟨hc, hnm⟩ := hlab'
  have HNm : Hid (∀ w', Below w.heap.size w w' → Calls Tryd.prog 157 #[.string (labN t)] w' fun e' w'' => e' = .returned (.bool true) ∧ Below w'.heap.size w' w'') := fun w' hb => by
    have := isName_any (labN t) w' (ht.below ht.pos hb) hnl
    rw [hnm] at this
    exact this
  have HCS : Hid (∀ w', Calls Tryd.prog 156 #[.string t.text, .string ⟨#[58]⟩] w' fun e' w'' => e' = .returned (.tuple #[.string (labN t), .bool true]) ∧ w'' = w') := fun w' => cutSuffix_yes t.text w' hml ht1 hc
  have HR : Hid (rdLine ps (t :: ts) = if (ps.labels.lookup (labN t).data.toList).isSome = true then .inr (t.fl, t.fc, 6) else rdRest { ps with labels := ps.labels ++ [((labN t).data.toList, (ps.words.length : Int))] } ts) := by unfold Hid; rw [rdLine, if_pos hlab]
  have hkey : keyOf Tryd.prog 9 (.string (labN t)) = some (.string (labN t).data.toList) := keyOf_string_mk Tryd.underlying9 hnl
  have HP := hide h
  have HTs := hide hts
  have HKey := hide hkey
  clear h hr hrow hlow hts hlab hc hnm ht1 hml hkey hnl
  generalize labN t = nm at *
  go_enter Tryd.func124, Tryd.ntmps124
  go_wp2_with fail
  refine (unhide HCS _).mono ?_
  rintro e w' ⟨rfl, hw⟩
  obtain rfl := hw.symm
  go_wp2_with fail
  refine (unhide HNm _ ((Below.refl _ _).alloc (Nat.le_refl _) _)).mono ?_
  rintro e w1 ⟨rfl, hb1⟩
  have HB1 : Hid (Below w.heap.size w w1) := ((Below.refl _ _).alloc (Nat.le_refl _) _).trans (hb1.mono (by rw [size_alloc1]; omega))
  have HF1 := hide ((F0.new w).block (hb1.block w.heap.size (by rw [size_alloc1]; omega)))
  have hz : w.heap.size < w1.heap.size := block_lt_of_cell HF1.out.f0
  have u0 := (below_cell' HB1.out g _ hgw).trans t0
  have u1 := (below_cell' HB1.out g _ hgw).trans t1
  have u2 := (below_cell' HB1.out g _ hgw).trans t2
  have HP1 := hide (HP.out.above HB1.out)
  have c0 := HP1.out.c0
  have c1 := HP1.out.c1
  obtain ⟨D, hown, hlok⟩ := HP1.out.mp
  have hD := hown.isMap
  have hhas := (hlok nm.data.toList).1
  have HOwn := hide hown
  have HLok := hide hlok
  have HD := hide hD
  clear hb1 t0 t1 t2 t3 t4 hown hlok hD HCS HNm
  cases hfnd : (ps.labels.lookup nm.data.toList).isSome
  · rw [hfnd] at hhas
    have HH := hide hhas
    clear hhas
    go_wp2_with (at_lookup; refine wpList_lookup_own_ok_int _ rfl _ _ 173 rfl 9 3 .i64 lawS Tryd.underlying173 Tryd.underlying3 (zeroI _) b ps.labels.length D rfl HOwn.out _ _ rfl HKey.out ?_; intro cc hat hwc; rw [HH.out]; clear hat hwc)
    refine still_tail 10 (by kernel_rfl) (by kernel_rfl) ?_
    simp only [List.take_succ_cons, List.take_zero, List.drop_succ_cons, List.drop_zero]
    repeat still_step
    refine wpStill_nil ?_
    have hnf : ¬ (ps.labels.lookup nm.data.toList).isSome = true := by rw [hfnd]; decide
    rw [if_neg hnf] at HR
    have HOd := hide (HOwn.out.drew)
    have HPd := hide (HP1.out.drew)
    have hll' : ps.labels.length < maxLen := by unfold maxLen; omega
    have hw64 : (Lit.int .i64 (ps.words.length : Int)).wf = true := by
      refine WalkArith.wf_i64 ?_ <;> omega
    have hni : ¬ InP N (.slice wa ps.words.length wc) b vu w.heap.size := fun hi => by have := (HP.out.inlt hi).2; omega
    have HAft : Hid (∀ w3, w3.ownsMap Tryd.prog 9 (plainElem Tryd.prog 3) b (ps.labels.length + 1) (D.put (.string nm.data.toList) (.lit (.int .i64 (ps.words.length : Int)))) → w1.drew.grownBy w3 (some b) →
        ProgAt B N { ps with labels := ps.labels ++ [(nm.data.toList, (ps.words.length : Int))] } (.slice wa ps.words.length wc) b vu w3 ∧ PFr B N b (.slice wa ps.words.length wc) vu (.slice wa ps.words.length wc) vu w w3 ∧ F0 w3 w.heap.size ∧ ∀ j, w3.cell? ⟨g, j, none⟩ = w.cell? ⟨g, j, none⟩) := fun w3 ho hg => by
      obtain ⟨q1, q2⟩ := HPd.out.putL HLok.out HD.out nm.data.toList (ps.words.length : Int) hfnd ho hg
      have q3 : PFr B N b (.slice wa ps.words.length wc) vu (.slice wa ps.words.length wc) vu w w3 := (PFr.of_below hBw HB1.out.drew).trans q2
      exact ⟨q1, q3, (HF1.out.block (w' := w1.drew) rfl).block (q2.out w.heap.size hz hni), fun j => below_cell' q3.below g j hgB⟩
    clear hfnd hnf HH u0 u1 u2 hsl1
    rcases ts with _ | ⟨hd, tl⟩
    · have HR' : Hid (rdLine ps [t] = .inl { ps with labels := ps.labels ++ [(nm.data.toList, (ps.words.length : Int))] }) := HR
      clear HRest hoff
      by_cases hc1 : cap = 1
      · subst hc1
        go_wp2_with (at_mapUpdate; refine wpList_mapUpdate_own _ rfl _ _ _ 173 rfl 9 3 lawS Tryd.underlying173 _ b ps.labels.length D rfl HOd.out hll' _ _ (.string nm.data.toList) rfl rfl HKey.out (.lit (.int .i64 (ps.words.length : Int))) [] (plainElem_int Tryd.underlying3 hw64) ?_; intro w3 hown3 hgr3; have H3 := hide (HAft.out w3 hown3 hgr3); clear hown3 hgr3; obtain ⟨f0, f1, f2, ff⟩ := H3.out.2.2.1; have kc := H3.out.2.2.2)
        refine bodyPost_ret (v := .agg #[.int .i64 0, .int .i64 0, .int .i64 0]) (by simp [results, Tryd.results124, go_sem, f0, f1, f2]) rfl ?_
        unfold RdPost
        exact ⟨_, _, pfr_set3 H3.out.2.1 hBw (Nat.le_refl _) _ _ _, .inl ⟨_, HR'.out, ((H3.out.1.setOut hni 0 _).setOut hni 1 _).setOut hni 2 _, rfl⟩⟩
      · go_wp2_with (at_mapUpdate; refine wpList_mapUpdate_own _ rfl _ _ _ 173 rfl 9 3 lawS Tryd.underlying173 _ b ps.labels.length D rfl HOd.out hll' _ _ (.string nm.data.toList) rfl rfl HKey.out (.lit (.int .i64 (ps.words.length : Int))) [] (plainElem_int Tryd.underlying3 hw64) ?_; intro w3 hown3 hgr3; have H3 := hide (HAft.out w3 hown3 hgr3); clear hown3 hgr3; obtain ⟨f0, f1, f2, ff⟩ := H3.out.2.2.1; have kc := H3.out.2.2.2)
        refine bodyPost_ret (v := .agg #[.int .i64 0, .int .i64 0, .int .i64 0]) (by simp [results, Tryd.results124, go_sem, f0, f1, f2]) rfl ?_
        unfold RdPost
        exact ⟨_, _, pfr_set3 H3.out.2.1 hBw (Nat.le_refl _) _ _ _, .inl ⟨_, HR'.out, ((H3.out.1.setOut hni 0 _).setOut hni 1 _).setOut hni 2 _, rfl⟩⟩
    · have HR' : Hid (rdLine ps (t :: hd :: tl) = rdIns { ps with labels := ps.labels ++ [(nm.data.toList, (ps.words.length : Int))] } hd tl) := HR
      have hc1 : ¬ cap = 1 := by simp at hcap'; omega
      rw [if_neg hc1] at hoff
      subst hoff
      obtain ⟨v0, v1, v2, v3, v4⟩ := HRest.out (by simp) 0 hd (by simp)
      simp only [Nat.zero_mul, Nat.add_zero] at v0 v1 v2 v3 v4
      go_wp2_with (at_mapUpdate; refine wpList_mapUpdate_own _ rfl _ _ _ 173 rfl 9 3 lawS Tryd.underlying173 _ b ps.labels.length D rfl HOd.out hll' _ _ (.string nm.data.toList) rfl rfl HKey.out (.lit (.int .i64 (ps.words.length : Int))) [] (plainElem_int Tryd.underlying3 hw64) ?_; intro w3 hown3 hgr3; have H3 := hide (HAft.out w3 hown3 hgr3); clear hown3 hgr3; obtain ⟨f0, f1, f2, ff⟩ := H3.out.2.2.1; have kc := H3.out.2.2.2; have x0 := (kc _).trans v0; have x1 := (kc _).trans v1; have x2 := (kc _).trans v2; have x3 := (kc _).trans v3; have x4 := (kc _).trans v4)
      have hsl2 := slice1 g (off + 5) tl.length (cap - 1)
      have HIns : Hid (Calls Tryd.prog 158 #[.pointer (some ⟨N, 0, none⟩), .agg (tokC hd).toArray, tailV g (off + 5) tl.length (cap - 1)] w3.drew (RdPost B N b (.slice wa ps.words.length wc) vu w3.drew (rdIns { ps with labels := ps.labels ++ [(nm.data.toList, (ps.words.length : Int))] } hd tl))) := by
        refine readIns_any B N _ _ b vu hd _ tl w3.drew H3.out.1.drew (ht.below (Nat.lt_of_le_of_lt (Nat.zero_le _) hgB) H3.out.2.1.below.drew) ⟨_, _, rfl, by simp at hcap'; omega, fun hne => ⟨g, _, rfl, fun i u hi => ?_⟩⟩ (fun a m c e => by unfold tailV at e; cases e; exact hgB) (by simp at hpl; omega) (fun u hu => by have := (HTs.out u (by simp [hu])).2; unfold maxLen; omega) hwl hul
        have := HRest.out (by simp) (i + 1) u (by simpa using hi)
        have hl : 0 < tl.length := List.length_pos_iff.2 hne
        rw [show off + 5 + (i + 1) * 5 = (if cap - 1 = 1 then off + 5 else off + 5 + 5) + i * 5 by rw [if_neg (by simp at hcap'; omega)]; omega] at this
        exact ⟨(kc _).trans this.r0, (kc _).trans this.r1, (kc _).trans this.r2, (kc _).trans this.r3, (kc _).trans this.r4⟩
      simp only [tokC] at HIns
      refine still_tail 6 (by kernel_rfl) (by kernel_rfl) ?_
      simp only [List.take_succ_cons, List.take_zero, List.drop_succ_cons, List.drop_zero]
      repeat still_step
      refine wpStill_nil ?_
      have hz3 : w.heap.size < w3.heap.size := block_lt_of_cell f0
      go_wp2_with fail
      refine (unhide HIns).mono ?_
      intro e w2 h2
      obtain ⟨x, y, z, rfl, hf2, hpost⟩ := rd_back (F := w.heap.size) (H3.out.2.1.above (Nat.le_trans hBw (Nat.le_of_lt hz3)) (Below.refl _ _).drew) hBw (Nat.le_refl _) hz3 hni (H3.out.2.2.1.block rfl) h2
      clear f0 f1 f2 ff
      obtain ⟨f0, f1, f2, ff⟩ := hf2
      have HPost := hide hpost
      clear hpost h2 x0 x1 x2 x3 x4 hsl2 HIns kc H3
      go_wp2_with fail
      refine bodyPost_ret (v := .agg #[.int .i64 x, .int .i64 y, .int .i64 z]) (by simp [results, Tryd.results124, go_sem, f0, f1, f2]) rfl ?_
      rw [HR'.out]
      exact HPost.out
  · rw [hfnd] at hhas HR
    have HH := hide hhas
    clear hhas
    rw [if_pos rfl] at HR
    obtain ⟨f0, f1, f2, ff⟩ := HF1.out
    go_wp2_with (at_lookup; refine wpList_lookup_own_ok_int _ rfl _ _ 173 rfl 9 3 .i64 lawS Tryd.underlying173 Tryd.underlying3 (zeroI _) b ps.labels.length D rfl HOwn.out _ _ rfl HKey.out ?_; intro cc hat hwc; rw [HH.out]; clear hat hwc)
    refine bodyPost_ret (v := .agg #[.int .i64 t.fl, .int .i64 t.fc, .int .i64 6]) (by simp [results, Tryd.results124, go_sem, f0, f1, f2]) rfl ?_
    unfold RdPost
    exact ⟨_, _, PFr.of_below hBw (below_set3 HB1.out (Nat.le_refl _) _ _ _), .inr ⟨_, _, _, HR.out, by decide, rfl⟩⟩
end Go.Proofs.YtmmflekajbeamaaDoor
