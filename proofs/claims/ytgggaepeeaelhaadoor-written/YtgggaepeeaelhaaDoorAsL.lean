/-
  A line is read (readLine).
-/
import Derived.Test.YtgggaepeeaelhaaDoorAsK
namespace Go.Proofs.YtgggaepeeaelhaaDoor
open Go.RowKit Go.Maps

theorem lawS : Keyed Tryd.prog 9 := string_keyed Tryd.underlying9
theorem zeroI (w : World) : (zeroValue 3).run Tryd.prog w = .ok (.int .i64 0) w := by kernel_rfl

theorem lab_put {D : DataW Unit} {l : List (List UInt8 × Int)} (h : LabOK D l) (hD : IsMap D) (k : List UInt8) (v : Int) (hn : (l.lookup k).isSome = false) : LabOK (D.put (.string k) (.lit (.int .i64 v))) (l ++ [(k, v)]) := by
  have hl : l.lookup k = none := by cases hq : l.lookup k with | none => rfl | some x => rw [hq] at hn; cases hn
  have la : ∀ k', (l ++ [(k, v)]).lookup k' = (l.lookup k').or (if k' == k then some v else none) := by
    intro k'
    rw [List.lookup_append]
    congr 1
    unfold List.lookup
    cases k' == k <;> rfl
  intro k'
  rw [la]
  by_cases hk : k' = k
  · subst hk
    rw [hl]
    simp only [beq_self_eq_true, if_true, Option.none_or]
    exact ⟨Maps.has_put_same hD (by trivial) _, fun v' hv => by cases hv; exact Maps.atKey_put_same hD (by trivial) _ _⟩
  · have hb : (k' == k) = false := by rw [beq_eq_false_iff_ne]; exact hk
    have hne : Lit.string k' ≠ Lit.string k := fun e => hk (by cases e; rfl)
    rw [hb]
    simp only [Bool.false_eq_true, if_false, Option.or_none]
    obtain ⟨h1, h2⟩ := h k'
    exact ⟨(Maps.has_put_other hne _).trans h1, fun v' hv => (Maps.atKey_put_other hne _ _).trans (h2 v' hv)⟩

/-- The rest of a slice of tokens, behind the first. -/
def tailV (g off n cap : Nat) : Value := .slice (some ⟨g, if cap = 1 then off else off + 5, none⟩) n (cap - 1)
set_option maxRecDepth 100000 in
theorem slice1 (g off n cap : Nat) (w : World) : (Instr.slice 177 (.slice (some ⟨g, off, none⟩) (n + 1) cap) (some (.int .i64 1)) none none).run Tryd.prog w = .ok (tailV g off n cap) w := by
  have hs : (sizeOf 209).run Tryd.prog w = .ok 5 w := by kernel_rfl
  have he : Tryd.prog.elem 177 = 209 := by kernel_rfl
  have hu : Tryd.prog.underlying 177 = some (.slice (Tryd.prog.elem 177)) := by rw [he]; exact Tryd.underlying177
  rw [run_slice_l (P := Tryd.prog) w _ _ _ _ hu .i64 1 (by decide) (by omega), he, hs]
  simp only [Result.andThen, sliced, tailV]
  congr 1
  by_cases hc : cap = 1
  · rw [if_pos hc, if_pos (by simpa using hc)]
    rfl
  · rw [if_neg hc, if_neg (by simpa using hc)]
    rfl

/-- The cells of a fault, all nought, that may be written. -/
structure F0 (w : World) (F : Nat) : Prop where
  f0 : w.cell? ⟨F, 0, none⟩ = some (.int .i64 0)
  f1 : w.cell? ⟨F, 1, none⟩ = some (.int .i64 0)
  f2 : w.cell? ⟨F, 2, none⟩ = some (.int .i64 0)
  ff : ∀ j, w.frozen? ⟨F, j, none⟩ = false
theorem F0.block {w w' : World} {F : Nat} (h : F0 w F) (hb : w'.heap[F]? = w.heap[F]?) : F0 w' F :=
  ⟨(World.cell?_of_block hb).trans h.f0, (World.cell?_of_block hb).trans h.f1, (World.cell?_of_block hb).trans h.f2, fun j => (World.frozen?_of_block hb).trans (h.ff j)⟩
theorem F0.new (w : World) : F0 (w.alloc (.cells #[.int .i64 0, .int .i64 0, .int .i64 0] 116)) w.heap.size := by
  refine ⟨?_, ?_, ?_, fun j => ?_⟩
  iterate 3
    · rw [World.cell?_alloc_at (hn := rfl)]; rfl
  · rw [World.frozen?_alloc_at (hn := rfl)]
/-- Behind a call that reads a part of the text its fault is laid into the caller's own. -/
theorem rd_back {B N b : Nat} {vw vu vw1 vu1 : Value} {w w1 w2 : World} {r : PS ⊕ (Int × Int × Int)} {e' : Ending} (hp : PFr B N b vw vu vw1 vu1 w w1) {F : Nat} (hB : B ≤ F) (hF : w.heap.size ≤ F) (hlt : F < w1.heap.size) (hni : ¬ InP N vw1 b vu1 F) (hf : F0 w1 F)
    (h : RdPost B N b vw1 vu1 w1 r e' w2) : ∃ x y z : Int, e' = .returned (.agg #[.int .i64 x, .int .i64 y, .int .i64 z]) ∧ F0 w2 F ∧
      RdPost B N b vw vu w r (.returned (.agg #[.int .i64 x, .int .i64 y, .int .i64 z])) (((w2.setCell ⟨F, 0, none⟩ (.int .i64 x)).setCell ⟨F, 1, none⟩ (.int .i64 y)).setCell ⟨F, 2, none⟩ (.int .i64 z)) := by
  obtain ⟨vw2, vu2, hp2, h⟩ := h
  have hf2 := hf.block (hp2.out F hlt hni)
  have hni2 : ¬ InP N vw2 b vu2 F := fun hi => by
    rcases hp2.new F hi with h1 | h1
    · exact hni h1
    · omega
  rcases h with ⟨ps', rfl, hpa, rfl⟩ | ⟨l, c, e, rfl, he, rfl⟩
  · exact ⟨0, 0, 0, rfl, hf2, vw2, vu2, pfr_set3 (hp.trans hp2) hB hF _ _ _, .inl ⟨ps', rfl, ((hpa.setOut hni2 0 _).setOut hni2 1 _).setOut hni2 2 _, rfl⟩⟩
  · exact ⟨l, c, e, rfl, hf2, vw2, vu2, pfr_set3 (hp.trans hp2) hB hF _ _ _, .inr ⟨l, c, e, rfl, he, rfl⟩⟩

set_option maxRecDepth 100000 in
set_option maxHeartbeats 2000000 in
theorem readLine_nil (B N : Nat) (ps : PS) (vw : Value) (b : Nat) (vu : Value) (v : Value) (w : World) (h : ProgAt B N ps vw b vu w) (hsl : SlAt w v []) :
    Calls Tryd.prog 124 #[.pointer (some ⟨N, 0, none⟩), v] w (RdPost B N b vw vu w (rdLine ps [])) := by
  obtain ⟨a, cap, rfl, _, _⟩ := hsl
  have hBw : B ≤ w.heap.size := Nat.le_trans h.bN (Nat.le_of_lt h.nlt)
  have HP := hide h
  clear h
  go_enter Tryd.func124, Tryd.ntmps124
  go_wp2_with fail
  refine bodyPost_ret (v := .agg #[.int .i64 0, .int .i64 0, .int .i64 0]) (by simp [results, Tryd.results124, go_sem]) rfl ?_
  unfold RdPost
  exact ⟨vw, vu, PFr.of_below hBw ((Below.refl _ _).alloc (Nat.le_refl _) _), .inl ⟨ps, rfl, HP.out.alloc _, rfl⟩⟩

set_option maxRecDepth 100000 in
set_option maxHeartbeats 2000000 in
theorem readLine_nolab (B N : Nat) (ps : PS) (vw : Value) (b : Nat) (vu : Value) (v : Value) (t : Tok) (ts : List Tok) (w : World) (h : ProgAt B N ps vw b vu w) (ht : Tab w) (hsl : SlAt w v (t :: ts)) (hlow : ∀ a m c, v = .slice (some a) m c → a.block < B)
    (hpl : ts.length + 1 ≤ 5000) (hts : ∀ t' ∈ t :: ts, 1 ≤ t'.text.size ∧ t'.text.size ≤ 2000) (hwl : ps.words.length ≤ 128) (hul : ps.uses.length + 3 ≤ 5000) (hlab : labB t = false) :
    Calls Tryd.prog 124 #[.pointer (some ⟨N, 0, none⟩), v] w (RdPost B N b vw vu w (rdLine ps (t :: ts))) := by
  obtain ⟨a, cap, rfl, hcap, hrow⟩ := hsl
  obtain ⟨g, off, rfl, hr⟩ := hrow (by simp)
  have hgB : g < B := hlow _ _ _ rfl
  have hBw : B ≤ w.heap.size := Nat.le_trans h.bN (Nat.le_of_lt h.nlt)
  have hgw : g < w.heap.size := by omega
  obtain ⟨t0, t1, t2, t3, t4⟩ := hr 0 t (by simp)
  simp only [Nat.zero_mul, Nat.add_zero] at t0 t1 t2 t3 t4
  have hcap' : ts.length + 1 ≤ cap := hcap
  have hsl1 := slice1 g off ts.length cap
  have HRest : Hid (∀ w', Below B w w' → SlAt w' (tailV g off ts.length cap) ts) := fun w' hb =>
    ⟨_, _, rfl, by omega, fun hne => ⟨g, _, rfl, fun i u hi => by
      have := hr (i + 1) u (by simpa using hi)
      have hl : 0 < ts.length := List.length_pos_iff.2 hne
      rw [show off + (i + 1) * 5 = (if cap = 1 then off else off + 5) + i * 5 by rw [if_neg (by omega)]; omega] at this
      exact ⟨(below_cell' hb g _ hgB).trans this.r0, (below_cell' hb g _ hgB).trans this.r1, (below_cell' hb g _ hgB).trans this.r2, (below_cell' hb g _ hgB).trans this.r3, (below_cell' hb g _ hgB).trans this.r4⟩⟩⟩
  have HP := hide h
  have HTs := hide hts
  obtain ⟨ht1, ht2⟩ := hts t (by simp)
  clear h hr hrow hlow hts
  have HR : Hid (rdLine ps (t :: ts) = rdIns ps t ts) := by unfold Hid; rw [rdLine, hlab]; rfl
  have HIns : Hid (∀ w', Below w.heap.size w w' → Calls Tryd.prog 158 #[.pointer (some ⟨N, 0, none⟩), .agg (tokC t).toArray, tailV g off ts.length cap] w' (RdPost B N b vw vu w' (rdIns ps t ts))) := fun w' hb =>
    readIns_any B N ps vw b vu t _ ts w' (HP.out.above hb) (ht.below ht.pos hb) (HRest.out w' (hb.mono hBw)) (fun a m c e => by unfold tailV at e; cases e; exact hgB) (by omega) (fun u hu => by have := (HTs.out u (by simp [hu])).2; unfold maxLen; omega) hwl hul
  have hml : t.text.size ≤ maxLen := by unfold maxLen; omega
  have HNm : Hid (∀ w', Below w.heap.size w w' → Calls Tryd.prog 157 #[.string (labN t)] w' fun e' w'' => e' = .returned (.bool (nmI (labN t))) ∧ Below w'.heap.size w' w'') := fun w' hb =>
    isName_any (labN t) w' (ht.below ht.pos hb) (by unfold labN; rw [ByteArray.size_extract]; unfold maxLen; omega)
  simp only [tokC] at HIns
  cases hc : colB t.text.data.toList
  · have HCS := hide (fun w' => cutSuffix_no t.text w' hml ht1 hc)
    clear hc hlab
    go_enter Tryd.func124, Tryd.ntmps124
    go_wp2_with fail
    refine (unhide HCS _).mono ?_
    rintro e w' ⟨rfl, hw⟩
    obtain rfl := hw.symm
    go_wp2_with fail
    refine still_tail 6 (by kernel_rfl) (by kernel_rfl) ?_
    simp only [List.take_succ_cons, List.take_zero, List.drop_succ_cons, List.drop_zero]
    repeat still_step
    refine wpStill_nil ?_
    go_wp2_with fail
    refine (unhide HIns _ ((Below.refl _ _).alloc (Nat.le_refl _) _).drew).mono ?_
    intro e w2 h2
    obtain ⟨x, y, z, rfl, hf2, hpost⟩ := rd_back (F := w.heap.size) (PFr.of_below hBw ((Below.refl _ _).alloc (Nat.le_refl _) _).drew) hBw (Nat.le_refl _) (by show w.heap.size < (w.alloc _).heap.size; rw [size_alloc1]; omega) (fun hi => by have := (HP.out.inlt hi).2; omega) ((F0.new w).block rfl) h2
    obtain ⟨f0, f1, f2, ff⟩ := hf2
    have HPost := hide hpost
    clear hpost h2 t0 t1 t2 t3 t4 hsl1 HIns HCS HNm
    go_wp2_with fail
    refine bodyPost_ret (v := .agg #[.int .i64 x, .int .i64 y, .int .i64 z]) (by simp [results, Tryd.results124, go_sem, f0, f1, f2]) rfl ?_
    rw [HR.out]
    exact HPost.out
  · have hnm : nmI (labN t) = false := by unfold labB at hlab; rw [hc] at hlab; exact hlab
    have HCS := hide (fun w' => cutSuffix_yes t.text w' hml ht1 hc)
    rw [hnm] at HNm
    clear hc hlab hnm
    go_enter Tryd.func124, Tryd.ntmps124
    go_wp2_with fail
    refine (unhide HCS _).mono ?_
    rintro e w' ⟨rfl, hw⟩
    obtain rfl := hw.symm
    have HNm' : Hid (∀ w', Below w.heap.size w w' → Calls Tryd.prog 157 #[.string (t.text.extract 0 (t.text.size - 1))] w' fun e' w'' => e' = .returned (.bool false) ∧ Below w'.heap.size w' w'') := HNm
    go_wp2_with fail
    refine (unhide HNm' _ ((Below.refl _ _).alloc (Nat.le_refl _) _)).mono ?_
    rintro e w1 ⟨rfl, hb1⟩
    have HB1 : Hid (Below w.heap.size w w1) := ((Below.refl _ _).alloc (Nat.le_refl _) _).trans (hb1.mono (by rw [size_alloc1]; omega))
    have HF1 := hide ((F0.new w).block (hb1.block w.heap.size (by rw [size_alloc1]; omega)))
    have hz : w.heap.size < w1.heap.size := block_lt_of_cell HF1.out.f0
    have u0 := (below_cell' HB1.out g _ hgw).trans t0
    have u1 := (below_cell' HB1.out g _ hgw).trans t1
    have u2 := (below_cell' HB1.out g _ hgw).trans t2
    have u3 := (below_cell' HB1.out g _ hgw).trans t3
    have u4 := (below_cell' HB1.out g _ hgw).trans t4
    clear hb1 t0 t1 t2 t3 t4
    go_wp2_with fail
    refine still_tail 6 (by kernel_rfl) (by kernel_rfl) ?_
    simp only [List.take_succ_cons, List.take_zero, List.drop_succ_cons, List.drop_zero]
    repeat still_step
    refine wpStill_nil ?_
    go_wp2_with fail
    refine (unhide HIns _ HB1.out.drew).mono ?_
    intro e w2 h2
    obtain ⟨x, y, z, rfl, hf2, hpost⟩ := rd_back (F := w.heap.size) (PFr.of_below hBw HB1.out.drew) hBw (Nat.le_refl _) hz (fun hi => by have := (HP.out.inlt hi).2; omega) (HF1.out.block rfl) h2
    obtain ⟨f0, f1, f2, ff⟩ := hf2
    have HPost := hide hpost
    clear hpost h2 u0 u1 u2 u3 u4 hsl1 HIns HCS HNm HNm'
    go_wp2_with fail
    refine bodyPost_ret (v := .agg #[.int .i64 x, .int .i64 y, .int .i64 z]) (by simp [results, Tryd.results124, go_sem, f0, f1, f2]) rfl ?_
    rw [HR.out]
    exact HPost.out
end Go.Proofs.YtgggaepeeaelhaaDoor
