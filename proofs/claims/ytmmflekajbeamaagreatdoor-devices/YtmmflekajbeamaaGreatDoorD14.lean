/-
  A line is read (readLine).
  Plans: the table that holds each expression once, in memory: a list of expressions and a map that tells their numbers.
  Plans: an expression is held once (table.hold); constants and registers.
-/
import Derived.Test.YtmmflekajbeamaaGreatDoorD13
import Derived.Maps.OwnSet
import Derived.Maps.OwnOps
import Derived.DeepKeys4
namespace Go.Proofs.YtmmflekajbeamaaGreatDoor
open Go.RowKit Go.Maps

theorem lawS : Keyed Tryz.prog 9 := string_keyed Tryz.underlying9
theorem zeroI (w : World) : (zeroValue 3).run Tryz.prog w = .ok (.int .i64 0) w := by kernel_rfl

theorem lab_put {D : DataW Unit} {l : List (List UInt8 × Int)} (h : LabOK D l) (hD : IsMap D) (k : List UInt8) (v : Int) (hn : (l.lookup k).isSome = false) : LabOK (D.put (.string k) (.lit (.int .i64 v))) (l ++ [(k, v)]) := by
  have hl : l.lookup k = none := by cases hq : l.lookup k with | none => rfl | some x => rw [hq] at hn; cases hn
  have la : ∀ k', (l ++ [(k, v)]).lookup k' = (l.lookup k').or (if k' == k then some v else none) := by
    intro k'
    rw [List.lookup_append]
    congr 1
    unfold List.lookup
    cases k' == k <;> rfl
  intro k'
  rw [la]
  by_cases hk : k' = k
  · subst hk
    rw [hl]
    simp only [beq_self_eq_true, if_true, Option.none_or]
    exact ⟨Maps.has_put_same hD (by trivial) _, fun v' hv => by cases hv; exact Maps.atKey_put_same hD (by trivial) _ _⟩
  · have hb : (k' == k) = false := by rw [beq_eq_false_iff_ne]; exact hk
    have hne : Lit.string k' ≠ Lit.string k := fun e => hk (by cases e; rfl)
    rw [hb]
    simp only [Bool.false_eq_true, if_false, Option.or_none]
    obtain ⟨h1, h2⟩ := h k'
    exact ⟨(Maps.has_put_other hne _).trans h1, fun v' hv => (Maps.atKey_put_other hne _ _).trans (h2 v' hv)⟩

/-- The rest of a slice of tokens, behind the first. -/
def tailV (g off n cap : Nat) : Value := .slice (some ⟨g, if cap = 1 then off else off + 5, none⟩) n (cap - 1)
set_option maxRecDepth 100000 in
theorem slice1 (g off n cap : Nat) (w : World) : (Instr.slice 297 (.slice (some ⟨g, off, none⟩) (n + 1) cap) (some (.int .i64 1)) none none).run Tryz.prog w = .ok (tailV g off n cap) w := by
  have hs : (sizeOf 316).run Tryz.prog w = .ok 5 w := by kernel_rfl
  have he : Tryz.prog.elem 297 = 316 := by kernel_rfl
  have hu : Tryz.prog.underlying 297 = some (.slice (Tryz.prog.elem 297)) := by rw [he]; exact Tryz.underlying297
  rw [run_slice_l (P := Tryz.prog) w _ _ _ _ hu .i64 1 (by decide) (by omega), he, hs]
  simp only [Result.andThen, sliced, tailV]
  congr 1
  by_cases hc : cap = 1
  · rw [if_pos hc, if_pos (by simpa using hc)]
    rfl
  · rw [if_neg hc, if_neg (by simpa using hc)]
    rfl

/-- The cells of a fault, all nought, that may be written. -/
structure F0 (w : World) (F : Nat) : Prop where
  f0 : w.cell? ⟨F, 0, none⟩ = some (.int .i64 0)
  f1 : w.cell? ⟨F, 1, none⟩ = some (.int .i64 0)
  f2 : w.cell? ⟨F, 2, none⟩ = some (.int .i64 0)
  ff : ∀ j, w.frozen? ⟨F, j, none⟩ = false
theorem F0.block {w w' : World} {F : Nat} (h : F0 w F) (hb : w'.heap[F]? = w.heap[F]?) : F0 w' F :=
  ⟨(World.cell?_of_block hb).trans h.f0, (World.cell?_of_block hb).trans h.f1, (World.cell?_of_block hb).trans h.f2, fun j => (World.frozen?_of_block hb).trans (h.ff j)⟩
theorem F0.new (w : World) : F0 (w.alloc (.cells #[.int .i64 0, .int .i64 0, .int .i64 0] 250)) w.heap.size := by
  refine ⟨?_, ?_, ?_, fun j => ?_⟩
  iterate 3
    · rw [World.cell?_alloc_at (hn := rfl)]; rfl
  · rw [World.frozen?_alloc_at (hn := rfl)]
/-- Behind a call that reads a part of the text its fault is laid into the caller's own. -/
theorem rd_back {B N b : Nat} {vw vu vw1 vu1 : Value} {w w1 w2 : World} {r : PS ⊕ (Int × Int × Int)} {e' : Ending} (hp : PFr B N b vw vu vw1 vu1 w w1) {F : Nat} (hB : B ≤ F) (hF : w.heap.size ≤ F) (hlt : F < w1.heap.size) (hni : ¬ InP N vw1 b vu1 F) (hf : F0 w1 F)
    (h : RdPost B N b vw1 vu1 w1 r e' w2) : ∃ x y z : Int, e' = .returned (.agg #[.int .i64 x, .int .i64 y, .int .i64 z]) ∧ F0 w2 F ∧
      RdPost B N b vw vu w r (.returned (.agg #[.int .i64 x, .int .i64 y, .int .i64 z])) (((w2.setCell ⟨F, 0, none⟩ (.int .i64 x)).setCell ⟨F, 1, none⟩ (.int .i64 y)).setCell ⟨F, 2, none⟩ (.int .i64 z)) := by
  obtain ⟨vw2, vu2, hp2, h⟩ := h
  have hf2 := hf.block (hp2.out F hlt hni)
  have hni2 : ¬ InP N vw2 b vu2 F := fun hi => by
    rcases hp2.new F hi with h1 | h1
    · exact hni h1
    · omega
  rcases h with ⟨ps', rfl, hpa, rfl⟩ | ⟨l, c, e, rfl, he, rfl⟩
  · exact ⟨0, 0, 0, rfl, hf2, vw2, vu2, pfr_set3 (hp.trans hp2) hB hF _ _ _, .inl ⟨ps', rfl, ((hpa.setOut hni2 0 _).setOut hni2 1 _).setOut hni2 2 _, rfl⟩⟩
  · exact ⟨l, c, e, rfl, hf2, vw2, vu2, pfr_set3 (hp.trans hp2) hB hF _ _ _, .inr ⟨l, c, e, rfl, he, rfl⟩⟩

set_option maxRecDepth 100000 in
set_option maxHeartbeats 2000000 in
theorem readLine_nil (B N : Nat) (ps : PS) (vw : Value) (b : Nat) (vu : Value) (v : Value) (w : World) (h : ProgAt B N ps vw b vu w) (hsl : SlAt w v []) :
    Calls Tryz.prog 231 #[.pointer (some ⟨N, 0, none⟩), v] w (RdPost B N b vw vu w (rdLine ps [])) := by
  obtain ⟨a, cap, rfl, _, _⟩ := hsl
  have hBw : B ≤ w.heap.size := Nat.le_trans h.bN (Nat.le_of_lt h.nlt)
  have HP := hide h
  clear h
  go_enter Tryz.func231, Tryz.ntmps231
  go_wp2_with fail
  refine bodyPost_ret (v := .agg #[.int .i64 0, .int .i64 0, .int .i64 0]) (by simp [results, Tryz.results231, go_sem]) rfl ?_
  unfold RdPost
  exact ⟨vw, vu, PFr.of_below hBw ((Below.refl _ _).alloc (Nat.le_refl _) _), .inl ⟨ps, rfl, HP.out.alloc _, rfl⟩⟩

set_option maxRecDepth 100000 in
set_option maxHeartbeats 2000000 in
theorem readLine_nolab (B N : Nat) (ps : PS) (vw : Value) (b : Nat) (vu : Value) (v : Value) (t : Tok) (ts : List Tok) (w : World) (h : ProgAt B N ps vw b vu w) (ht : Tab w) (hsl : SlAt w v (t :: ts)) (hlow : ∀ a m c, v = .slice (some a) m c → a.block < B)
    (hpl : ts.length + 1 ≤ 5000) (hts : ∀ t' ∈ t :: ts, 1 ≤ t'.text.size ∧ t'.text.size ≤ 2000) (hwl : ps.words.length ≤ 128) (hul : ps.uses.length + 3 ≤ 5000) (hlab : labB t = false) :
    Calls Tryz.prog 231 #[.pointer (some ⟨N, 0, none⟩), v] w (RdPost B N b vw vu w (rdLine ps (t :: ts))) := by
  obtain ⟨a, cap, rfl, hcap, hrow⟩ := hsl
  obtain ⟨g, off, rfl, hr⟩ := hrow (by simp)
  have hgB : g < B := hlow _ _ _ rfl
  have hBw : B ≤ w.heap.size := Nat.le_trans h.bN (Nat.le_of_lt h.nlt)
  have hgw : g < w.heap.size := by omega
  obtain ⟨t0, t1, t2, t3, t4⟩ := hr 0 t (by simp)
  simp only [Nat.zero_mul, Nat.add_zero] at t0 t1 t2 t3 t4
  have hcap' : ts.length + 1 ≤ cap := hcap
  have hsl1 := slice1 g off ts.length cap
  have HRest : Hid (∀ w', Below B w w' → SlAt w' (tailV g off ts.length cap) ts) := fun w' hb =>
    ⟨_, _, rfl, by omega, fun hne => ⟨g, _, rfl, fun i u hi => by
      have := hr (i + 1) u (by simpa using hi)
      have hl : 0 < ts.length := List.length_pos_iff.2 hne
      rw [show off + (i + 1) * 5 = (if cap = 1 then off else off + 5) + i * 5 by rw [if_neg (by omega)]; omega] at this
      exact ⟨(below_cell' hb g _ hgB).trans this.r0, (below_cell' hb g _ hgB).trans this.r1, (below_cell' hb g _ hgB).trans this.r2, (below_cell' hb g _ hgB).trans this.r3, (below_cell' hb g _ hgB).trans this.r4⟩⟩⟩
  have HP := hide h
  have HTs := hide hts
  obtain ⟨ht1, ht2⟩ := hts t (by simp)
  clear h hr hrow hlow hts
  have HR : Hid (rdLine ps (t :: ts) = rdIns ps t ts) := by unfold Hid; rw [rdLine, hlab]; rfl
  have HIns : Hid (∀ w', Below w.heap.size w w' → Calls Tryz.prog 251 #[.pointer (some ⟨N, 0, none⟩), .agg (tokC t).toArray, tailV g off ts.length cap] w' (RdPost B N b vw vu w' (rdIns ps t ts))) := fun w' hb =>
    readIns_any B N ps vw b vu t _ ts w' (HP.out.above hb) (ht.below ht.pos hb) (HRest.out w' (hb.mono hBw)) (fun a m c e => by unfold tailV at e; cases e; exact hgB) (by omega) (fun u hu => by have := (HTs.out u (by simp [hu])).2; unfold maxLen; omega) hwl hul
  have hml : t.text.size ≤ maxLen := by unfold maxLen; omega
  have HNm : Hid (∀ w', Below w.heap.size w w' → Calls Tryz.prog 250 #[.string (labN t)] w' fun e' w'' => e' = .returned (.bool (nmI (labN t))) ∧ Below w'.heap.size w' w'') := fun w' hb =>
    isName_any (labN t) w' (ht.below ht.pos hb) (by unfold labN; rw [ByteArray.size_extract]; unfold maxLen; omega)
  simp only [tokC] at HIns
  cases hc : colB t.text.data.toList
  · have HCS := hide (fun w' => cutSuffix_no t.text w' hml ht1 hc)
    clear hc hlab
    go_enter Tryz.func231, Tryz.ntmps231
    go_wp2_with fail
    refine (unhide HCS _).mono ?_
    rintro e w' ⟨rfl, hw⟩
    obtain rfl := hw.symm
    go_wp2_with fail
    refine still_tail 6 (by kernel_rfl) (by kernel_rfl) ?_
    simp only [List.take_succ_cons, List.take_zero, List.drop_succ_cons, List.drop_zero]
    repeat still_step
    refine wpStill_nil ?_
    go_wp2_with fail
    refine (unhide HIns _ ((Below.refl _ _).alloc (Nat.le_refl _) _).drew).mono ?_
    intro e w2 h2
    obtain ⟨x, y, z, rfl, hf2, hpost⟩ := rd_back (F := w.heap.size) (PFr.of_below hBw ((Below.refl _ _).alloc (Nat.le_refl _) _).drew) hBw (Nat.le_refl _) (by show w.heap.size < (w.alloc _).heap.size; rw [size_alloc1]; omega) (fun hi => by have := (HP.out.inlt hi).2; omega) ((F0.new w).block rfl) h2
    obtain ⟨f0, f1, f2, ff⟩ := hf2
    have HPost := hide hpost
    clear hpost h2 t0 t1 t2 t3 t4 hsl1 HIns HCS HNm
    go_wp2_with fail
    refine bodyPost_ret (v := .agg #[.int .i64 x, .int .i64 y, .int .i64 z]) (by simp [results, Tryz.results231, go_sem, f0, f1, f2]) rfl ?_
    rw [HR.out]
    exact HPost.out
  · have hnm : nmI (labN t) = false := by unfold labB at hlab; rw [hc] at hlab; exact hlab
    have HCS := hide (fun w' => cutSuffix_yes t.text w' hml ht1 hc)
    rw [hnm] at HNm
    clear hc hlab hnm
    go_enter Tryz.func231, Tryz.ntmps231
    go_wp2_with fail
    refine (unhide HCS _).mono ?_
    rintro e w' ⟨rfl, hw⟩
    obtain rfl := hw.symm
    have HNm' : Hid (∀ w', Below w.heap.size w w' → Calls Tryz.prog 250 #[.string (t.text.extract 0 (t.text.size - 1))] w' fun e' w'' => e' = .returned (.bool false) ∧ Below w'.heap.size w' w'') := HNm
    go_wp2_with fail
    refine (unhide HNm' _ ((Below.refl _ _).alloc (Nat.le_refl _) _)).mono ?_
    rintro e w1 ⟨rfl, hb1⟩
    have HB1 : Hid (Below w.heap.size w w1) := ((Below.refl _ _).alloc (Nat.le_refl _) _).trans (hb1.mono (by rw [size_alloc1]; omega))
    have HF1 := hide ((F0.new w).block (hb1.block w.heap.size (by rw [size_alloc1]; omega)))
    have hz : w.heap.size < w1.heap.size := block_lt_of_cell HF1.out.f0
    have u0 := (below_cell' HB1.out g _ hgw).trans t0
    have u1 := (below_cell' HB1.out g _ hgw).trans t1
    have u2 := (below_cell' HB1.out g _ hgw).trans t2
    have u3 := (below_cell' HB1.out g _ hgw).trans t3
    have u4 := (below_cell' HB1.out g _ hgw).trans t4
    clear hb1 t0 t1 t2 t3 t4
    go_wp2_with fail
    refine still_tail 6 (by kernel_rfl) (by kernel_rfl) ?_
    simp only [List.take_succ_cons, List.take_zero, List.drop_succ_cons, List.drop_zero]
    repeat still_step
    refine wpStill_nil ?_
    go_wp2_with fail
    refine (unhide HIns _ HB1.out.drew).mono ?_
    intro e w2 h2
    obtain ⟨x, y, z, rfl, hf2, hpost⟩ := rd_back (F := w.heap.size) (PFr.of_below hBw HB1.out.drew) hBw (Nat.le_refl _) hz (fun hi => by have := (HP.out.inlt hi).2; omega) (HF1.out.block rfl) h2
    obtain ⟨f0, f1, f2, ff⟩ := hf2
    have HPost := hide hpost
    clear hpost h2 u0 u1 u2 u3 u4 hsl1 HIns HCS HNm HNm'
    go_wp2_with fail
    refine bodyPost_ret (v := .agg #[.int .i64 x, .int .i64 y, .int .i64 z]) (by simp [results, Tryz.results231, go_sem, f0, f1, f2]) rfl ?_
    rw [HR.out]
    exact HPost.out
end Go.Proofs.YtmmflekajbeamaaGreatDoor

namespace Go.Proofs.YtmmflekajbeamaaGreatDoor
open Go.RowKit Go.Maps Go.WideMaps

def exC (e : Ex) : List Value := [.int .i64 (e.1 : Int), .int .i64 (e.2.1 : Int), .int .i64 (e.2.2.1 : Int), .int .i64 (e.2.2.2 : Int)]
def exCs (T : List Ex) : List Value := T.flatMap exC
theorem exCs_snoc (T : List Ex) (e : Ex) : exCs (T ++ [e]) = exCs T ++ exC e := by simp [exCs]
/-- All its numbers are small. -/
def exB (e : Ex) : Prop := e.1 < 4294967296 ∧ e.2.1 < 4294967296 ∧ e.2.2.1 < 4294967296 ∧ e.2.2.2 < 4294967296
theorem okE_B {n : Nat} {e : Ex} (h : okE n e) (hn : n ≤ 1000) : exB e := by
  unfold okE at h
  unfold exB
  omega

/-! ### keys -/
theorem loE : laidOutB Tryz.prog = true := by kernel_rfl
theorem rowE : (322 : TypeId) < Tryz.prog.types.size := of_decide_eq_true (by kernel_rfl)
theorem wideE : (match Tryz.prog.underlying 322 with | some (.array _ _) | some (.struct _) => true | _ => false) = true := by rw [Tryz.underlying322]
set_option maxRecDepth 100000 in
theorem lawE : Keyed Tryz.prog 322 := Keyed.of_law (deep_law_laid loE (m := 2) (by omega) rowE (by kernel_rfl) wideE)
theorem ktE : Tryz.prog.keyType 322 = true := by kernel_rfl
set_option maxRecDepth 100000 in
theorem tsE : ∃ m, Tryz.prog.types.size = m + 1 := ⟨Tryz.prog.types.size - 1, (Nat.succ_pred_eq_of_pos (Nat.lt_of_le_of_lt (Nat.zero_le _) rowE)).symm⟩
theorem csE : Tryz.prog.cellsOf 322 = 4 := by kernel_rfl
theorem csI : Tryz.prog.cellsOf 3 = 1 := by kernel_rfl
def keyE (e : Ex) : Lit := .string (keyBytes [.int .i64 (e.1 : Int), .int .i64 (e.2.1 : Int), .int .i64 (e.2.2.1 : Int), .int .i64 (e.2.2.2 : Int)])
set_option maxRecDepth 100000 in
theorem keyOfE (e : Ex) (h : exB e) : keyOf Tryz.prog 322 (.agg (exC e).toArray) = some (keyE e) := by
  obtain ⟨k, a, b, v⟩ := e
  obtain ⟨h0, h1, h2, h3⟩ := h
  dsimp only at h0 h1 h2 h3
  have w0 : (Lit.int .i64 (k : Int)).wf = true := by refine WalkArith.wf_i64 ?_ <;> omega
  have w1 : (Lit.int .i64 (a : Int)).wf = true := by refine WalkArith.wf_i64 ?_ <;> omega
  have w2 : (Lit.int .i64 (b : Int)).wf = true := by refine WalkArith.wf_i64 ?_ <;> omega
  have w3 : (Lit.int .i64 (v : Int)).wf = true := by refine WalkArith.wf_i64 ?_ <;> omega
  obtain ⟨m, hm⟩ := tsE
  unfold keyOf
  simp only [Tryz.underlying322]
  rw [if_pos (by simp [ktE, Value.formed, Tryz.underlying322, csE, exC]), hm]
  unfold Program.keyLits
  simp only [Tryz.underlying322, Value.cells]
  rw [if_pos (by rw [csE]; exact ⟨rfl, by simp⟩)]
  simp [exC, csI, Program.keyLits, Tryz.underlying3, w0, w1, w2, w3, keyE]
theorem keyE_inj {e e' : Ex} (h : exB e) (h' : exB e') (he : keyE e = keyE e') : e = e' := by
  have h1 := keyOfE e h
  have h2 := keyOfE e' h'
  rw [he] at h1
  have := lawE.inj h1 h2
  obtain ⟨k, a, b, v⟩ := e
  obtain ⟨k', a', b', v'⟩ := e'
  simp [exC] at this
  obtain ⟨q1, q2, q3, q4⟩ := this
  rw [Prod.mk.injEq, Prod.mk.injEq, Prod.mk.injEq]
  exact ⟨by omega, by omega, by omega, by omega⟩

/-- A map's datum tells the numbers. -/
def TabOK (D : DataW Unit) (T : List Ex) : Prop :=
  ∀ e, exB e → (Maps.has D (keyE e) = true ↔ e ∈ T) ∧ ∀ n : Nat, T[n]? = some e → (∀ m : Nat, T[m]? = some e → m = n) → D.atKey (keyE e) (.lit (.int .i64 0)) = .lit (.int .i64 (n : Int))

/-- The table in memory: block N; all of it lies from block B on. -/
structure TabAt (B N : Nat) (T : List Ex) (b : Nat) (v : Value) (w : World) : Prop where
  c0 : w.cell? ⟨N, 0, none⟩ = some (.map (some b))
  c1 : w.cell? ⟨N, 1, none⟩ = some v
  fz : ∀ i, w.frozen? ⟨N, i, none⟩ = false
  bN : B ≤ N
  bb : B ≤ b
  nv : ∀ g, v.ownBlock = some g → g ≠ N
  ls : w.ownsRow B 322 4 v T.length (exCs T)
  mp : ∃ D : DataW Unit, w.ownsMap Tryz.prog 322 (plainElem Tryz.prog 3) b T.length D ∧ TabOK D T
theorem TabAt.nlt {B N : Nat} {T : List Ex} {b : Nat} {v : Value} {w : World} (h : TabAt B N T b v w) : N < w.heap.size := block_lt_of_cell h.c0
theorem TabAt.blt {B N : Nat} {T : List Ex} {b : Nat} {v : Value} {w : World} (h : TabAt B N T b v w) : b < w.heap.size := by
  obtain ⟨D, hm, _⟩ := h.mp
  exact hm.lt
def InT (N b : Nat) (v : Value) (g : Nat) : Prop := g = N ∨ g = b ∨ v.ownBlock = some g
theorem TabAt.inlt {B N : Nat} {T : List Ex} {b : Nat} {v : Value} {w : World} (h : TabAt B N T b v w) {g : Nat} (hg : InT N b v g) : B ≤ g ∧ g < w.heap.size := by
  rcases hg with rfl | rfl | hg
  · exact ⟨h.bN, h.nlt⟩
  · exact ⟨h.bb, h.blt⟩
  · exact row_lt h.ls g hg
theorem TabAt.kept {B N : Nat} {T : List Ex} {b : Nat} {v : Value} {w w' : World} (h : TabAt B N T b v w) (hk : ∀ g, InT N b v g → w'.heap[g]? = w.heap[g]?) : TabAt B N T b v w' := by
  have hN := hk N (.inl rfl)
  refine ⟨(World.cell?_of_block hN).trans h.c0, (World.cell?_of_block hN).trans h.c1, fun i => (World.frozen?_of_block hN).trans (h.fz i), h.bN, h.bb, h.nv, ownsRow_keep h.ls (fun g hg => hk g (.inr (.inr hg))), ?_⟩
  obtain ⟨D, hm, hl⟩ := h.mp
  exact ⟨D, map_keep hm (hk b (.inr (.inl rfl))), hl⟩
theorem TabAt.alloc {B N : Nat} {T : List Ex} {b : Nat} {v : Value} {w : World} (h : TabAt B N T b v w) (o : Obj) : TabAt B N T b v (w.alloc o) :=
  h.kept fun g hg => Below.heap_alloc w o g (h.inlt hg).2
theorem TabAt.drew {B N : Nat} {T : List Ex} {b : Nat} {v : Value} {w : World} (h : TabAt B N T b v w) : TabAt B N T b v w.drew := h.kept fun _ _ => rfl
theorem TabAt.above {B N : Nat} {T : List Ex} {b : Nat} {v : Value} {w w' : World} (h : TabAt B N T b v w) (hb : Below w.heap.size w w') : TabAt B N T b v w' :=
  h.kept fun g hg => hb.block g (h.inlt hg).2
theorem TabAt.setOut {B N : Nat} {T : List Ex} {b : Nat} {v : Value} {w : World} (h : TabAt B N T b v w) {g : Nat} (hg : ¬ InT N b v g) (i : Nat) (u : Value) : TabAt B N T b v (w.setCell ⟨g, i, none⟩ u) :=
  h.kept fun _ hk => heap_set_other w u (fun e => hg (e ▸ hk))
theorem TabAt.apart {B N : Nat} {T : List Ex} {b : Nat} {v : Value} {w : World} (h : TabAt B N T b v w) : N ≠ b ∧ v.ownBlock ≠ some b := by
  obtain ⟨D, hm, _⟩ := h.mp
  obtain ⟨es, cl, hb⟩ := map_of hm
  refine ⟨fun e => ?_, fun e => ?_⟩
  · obtain ⟨c, t, fr, hc⟩ := cells_of_cell h.c0
    rw [e, hb] at hc; cases hc
  · obtain ⟨_, c, t, fr, hc⟩ := ownsRow_cells h.ls b e
    rw [hb] at hc; cases hc
/-- What a call on the table leaves: blocks below B, and all others but N, the map and rows of expressions, are as they were. -/
structure TFr (B N b : Nat) (w w' : World) : Prop where
  below : Below B w w'
  other : ∀ g, g < w.heap.size → g ≠ N → g ≠ b → (∀ cur, w.heap[g]? ≠ some (.cells cur 322 (0, 0))) → w'.heap[g]? = w.heap[g]?
theorem TFr.refl (B N b : Nat) (w : World) : TFr B N b w w := ⟨Below.refl _ _, fun _ _ _ _ _ => rfl⟩
theorem TFr.trans {B N b : Nat} {x y z : World} (h : TFr B N b x y) (k : TFr B N b y z) : TFr B N b x z := by
  refine ⟨h.below.trans k.below, fun g hg h1 h2 h3 => ?_⟩
  have e := h.other g hg h1 h2 h3
  exact (k.other g (Nat.lt_of_lt_of_le hg h.below.size) h1 h2 (fun cur hc => h3 cur (e ▸ hc))).trans e
theorem TFr.above {B N b : Nat} {x y : World} (hB : B ≤ x.heap.size) (h : Below x.heap.size x y) : TFr B N b x y :=
  ⟨h.mono hB, fun g hg _ _ _ => h.block g hg⟩
/-- A key more in the map. -/
theorem TabOK.add {D : DataW Unit} {T : List Ex} (h : TabOK D T) (hD : IsMap D) {e : Ex} (he : exB e) (hn : e ∉ T) : TabOK (D.put (keyE e) (.lit (.int .i64 (T.length : Int)))) (T ++ [e]) := by
  intro e' he'
  obtain ⟨h1, h2⟩ := h e' he'
  by_cases hee : e' = e
  · subst hee
    refine ⟨⟨fun _ => by simp, fun _ => ?_⟩, fun n hn' _ => ?_⟩
    · rw [has_put_same hD (lawE.key (keyOfE e' he'))]
    · rw [atKey_put_same hD (lawE.key (keyOfE e' he'))]
      have : n = T.length := by
        by_cases hl : n < T.length
        · rw [List.getElem?_append_left hl] at hn'
          exact absurd (List.mem_of_getElem? hn') hn
        · have := (List.getElem?_eq_some_iff.1 hn').1
          simp at this
          omega
      rw [this]
  · have hk : keyE e' ≠ keyE e := fun q => hee (keyE_inj he' he q)
    refine ⟨?_, fun n hn' hu => ?_⟩
    · rw [has_put_other hk, h1]
      simp [hee]
    · rw [atKey_put_other hk]
      have hl : n < T.length := by
        by_cases hl : n < T.length
        · exact hl
        · rw [List.getElem?_append_right (by omega)] at hn'
          have h0 := (List.getElem?_eq_some_iff.1 hn').1
          have h00 : n - T.length = 0 := by simp at h0; omega
          rw [h00] at hn'
          simp at hn'
          exact absurd hn'.symm hee
      rw [List.getElem?_append_left hl] at hn'
      exact h2 n hn' (fun m hm => hu m (by rw [List.getElem?_append_left (List.getElem?_eq_some_iff.1 hm).1]; exact hm))
end Go.Proofs.YtmmflekajbeamaaGreatDoor

namespace Go.Proofs.YtmmflekajbeamaaGreatDoor
open Go.RowKit Go.Maps Go.WideMaps

theorem infoEx : ∃ i, Tryz.prog.info? 322 = some i ∧ i.zero = some (.agg #[.int .i64 0, .int .i64 0, .int .i64 0, .int .i64 0]) ∧ i.size = 4 ∧ i.bytes = 32 := by
  have h : (Tryz.prog.info? 322).map (fun i => (i.zero, i.size, i.bytes)) = some (some (.agg #[.int .i64 0, .int .i64 0, .int .i64 0, .int .i64 0]), 4, 32) := by kernel_rfl
  cases hq : Tryz.prog.info? 322 with
  | none => rw [hq] at h; cases h
  | some i =>
    rw [hq] at h
    simp only [Option.map_some, Option.some.injEq, Prod.mk.injEq] at h
    exact ⟨i, rfl, h.1, h.2.1, h.2.2⟩
/-- Behind a store into the map. -/
theorem TabAt.putM {B N : Nat} {T : List Ex} {b : Nat} {v : Value} {w w1 : World} (h : TabAt B N T b v w) (hg : w.grownBy w1 (some b)) :
    (w1.cell? ⟨N, 0, none⟩ = some (.map (some b)) ∧ w1.cell? ⟨N, 1, none⟩ = some v ∧ (∀ i, w1.frozen? ⟨N, i, none⟩ = false) ∧ w1.ownsRow B 322 4 v T.length (exCs T)) ∧ TFr B N b w w1 := by
  obtain ⟨a1, a2⟩ := h.apart
  have hk : ∀ g, g < w.heap.size → g ≠ b → w1.heap[g]? = w.heap[g]? := fun g hlt hne => hg.block g hlt (fun e => hne (Option.some.inj e))
  have hN := hk N h.nlt a1
  exact ⟨⟨(World.cell?_of_block hN).trans h.c0, (World.cell?_of_block hN).trans h.c1, fun i => (World.frozen?_of_block hN).trans (h.fz i), ownsRow_keep h.ls (fun g hg' => hk g (row_lt h.ls g hg').2 (fun e => a2 (e ▸ hg')))⟩,
    ⟨(Below.refl _ _).grown hg (Nat.le_trans h.bN (Nat.le_of_lt h.nlt)) (fun j hj => by cases hj; exact h.bb), fun g hlt _ h2 _ => hk g hlt h2⟩⟩
/-- Behind a key more in the map, and an append to the list. -/
theorem hold_end {B N : Nat} {T : List Ex} {b : Nat} {v : Value} {w w0 w3 w5 w4 : World} {e : Ex} {D' : DataW Unit} (h : TabAt B N T b v w) (hb0 : Below w.heap.size w w0) (hg3 : w0.grownBy w3 (some b)) (ho3 : w3.ownsMap Tryz.prog 322 (plainElem Tryz.prog 3) b (T.length + 1) D') (hk3 : TabOK D' (T ++ [e]))
    (hb5 : Below w3.heap.size w3 w5) (g cap : Nat) (ho : w4.ownsRow B 322 4 (.slice (some ⟨g, 0, none⟩) (T.length + 1) cap) (T.length + 1) (exCs T ++ exC e)) (hgr : w5.grownBy w4 v.ownBlock) (ha : v.ownBlock = some g ∨ w.heap.size ≤ g) :
    TabAt B N (T ++ [e]) b (.slice (some ⟨g, 0, none⟩) (T.length + 1) cap) (w4.setCell ⟨N, 1, none⟩ (.slice (some ⟨g, 0, none⟩) (T.length + 1) cap)) ∧ TFr B N b w (w4.setCell ⟨N, 1, none⟩ (.slice (some ⟨g, 0, none⟩) (T.length + 1) cap)) := by
  have hBw : B ≤ w.heap.size := Nat.le_trans h.bN (Nat.le_of_lt h.nlt)
  have h0 := h.above hb0
  obtain ⟨a1, a2⟩ := h.apart
  obtain ⟨⟨c0, c1, fz, ls⟩, f3⟩ := h0.putM hg3
  have f03 : TFr B N b w w3 := (TFr.above hBw hb0).trans f3
  have hN3 : N < w3.heap.size := block_lt_of_cell c0
  have hw3 : w.heap.size ≤ w3.heap.size := f03.below.size
  have hk : ∀ k, k < w3.heap.size → v.ownBlock ≠ some k → w4.heap[k]? = w3.heap[k]? := fun k hk hn => (hgr.block k (Nat.lt_of_lt_of_le hk hb5.size) (fun e => hn e.symm)).trans (hb5.block k hk)
  have hN1 := hk N hN3 (fun e => h.nv N e rfl)
  have k1 : ∀ j, w4.cell? ⟨N, j, none⟩ = w3.cell? ⟨N, j, none⟩ := fun j => World.cell?_of_block hN1
  have k2 : ∀ j, w4.frozen? ⟨N, j, none⟩ = w3.frozen? ⟨N, j, none⟩ := fun j => World.frozen?_of_block hN1
  have hgN : g ≠ N := by
    rcases ha with ha | ha
    · exact h.nv g ha
    · have := h.nlt; omega
  have hB5 : B ≤ w5.heap.size := Nat.le_trans hBw (Nat.le_trans hw3 hb5.size)
  have hbel : Below B w (w4.setCell ⟨N, 1, none⟩ (.slice (some ⟨g, 0, none⟩) (T.length + 1) cap)) :=
    ((f03.below.trans (hb5.mono (Nat.le_trans hBw hw3))).grown hgr hB5 (fun k hk => (row_lt h.ls k hk).1)).setCell h.bN _
  generalize hv : Value.slice (some ⟨g, 0, none⟩) (T.length + 1) cap = v' at *
  have hvb : v'.ownBlock = some g := by rw [← hv]; rfl
  have hh : ∀ k, k ≠ N → (w4.setCell ⟨N, 1, none⟩ v').heap[k]? = w4.heap[k]? := fun k hk => heap_set_other _ _ hk
  refine ⟨⟨cell_of_rows ((k1 0).trans c0) (by decide), cell_set_same ((k1 1).trans c1), fun i => by rw [World.frozen?_setCell, k2]; exact fz i, h.bN, h.bb,
    fun k hk => by rw [hvb] at hk; cases hk; exact hgN, ?_, ?_⟩, hbel, fun k hk' h1 h2 h3 => ?_⟩
  · rw [exCs_snoc, List.length_append, List.length_singleton]
    exact ownsRow_keep ho (fun k hk => by rw [hvb] at hk; cases hk; exact hh g hgN)
  · refine ⟨D', ?_, hk3⟩
    rw [List.length_append, List.length_singleton]
    exact map_keep ho3 ((hh b (fun e => a1 e.symm)).trans (hk b ho3.lt a2))
  · have hne : v.ownBlock ≠ some k := fun e => by
      obtain ⟨cur, hc⟩ := ownsRow_kind h.ls k e
      exact h3 cur hc
    exact ((hh k h1).trans (hk k (Nat.lt_of_lt_of_le hk' hw3) hne)).trans (f03.other k hk' h1 h2 h3)
/-- What a holding leaves: the number, and the table that tells it. -/
def HoldPost (B N b : Nat) (T : List Ex) (w : World) (e : Ex) (e' : Ending) (w' : World) : Prop :=
  ∃ n T' v', e' = .returned (.int .i64 ((n : Nat) : Int)) ∧ TabAt B N T' b v' w' ∧ TFr B N b w w' ∧ ((T' = T ∧ T[n]? = some e) ∨ (T' = T ++ [e] ∧ n = T.length ∧ e ∉ T))
theorem nodup_at {T : List Ex} {ds : List (List UInt8)} (h : TI T ds) {n : Nat} {e : Ex} (hn : T[n]? = some e) : ∀ m : Nat, T[m]? = some e → m = n := fun m hm => h.one m n e hm hn

set_option maxRecDepth 100000 in
set_option maxHeartbeats 2000000 in
theorem hold_any (B N : Nat) (T : List Ex) (ds : List (List UInt8)) (b : Nat) (v : Value) (e : Ex) (w : World) (h : TabAt B N T b v w) (hT : TI T ds) (he : exB e) (hl : T.length ≤ 1000) :
    Calls Tryz.prog 253 #[.pointer (some ⟨N, 0, none⟩), .agg (exC e).toArray] w (HoldPost B N b T w e) := by
  have hNlt := h.nlt
  have hBw : B ≤ w.heap.size := Nat.le_trans h.bN (Nat.le_of_lt hNlt)
  have HP := hide h
  have HK := hide (keyOfE e he)
  obtain ⟨D, hown, htok⟩ := h.mp
  have hD := hown.isMap
  have c0 := h.c0; have c1 := h.c1
  obtain ⟨hh1, hh2⟩ := htok e he
  have HTok := hide htok; have HD := hide hD
  have hlook := fun o => ((hown.alloc o).drew).look_ok lawE Tryz.underlying267 (zeroI _) (plainElem_int (H := Unit) Tryz.underlying3 (a := 0) (by decide)) (keyOfE e he)
  obtain ⟨va, vc, rfl⟩ := owns_len h.ls
  have HOwn := hide hown
  have HE := hide he
  have hni : ¬ InT N b (.slice va T.length vc) w.heap.size := fun hi => by have := (h.inlt hi).2; omega
  have HNi := hide hni
  by_cases hm : e ∈ T
  · obtain ⟨n, hn⟩ := List.getElem?_of_mem hm
    have hat := hh2 n hn (nodup_at hT hn)
    have hlook2 : ∀ o, (Instr.lookup 267 (.map (some b)) (.agg (exC e).toArray) true).run Tryz.prog ((w.alloc o).drew) = .ok (.tuple #[.int .i64 (n : Int), .bool true]) ((w.alloc o).drew) := fun o => by
      obtain ⟨x, ps', hrun, hx⟩ := hlook o
      rw [hh1.2 hm] at hrun
      obtain ⟨a, rfl, ha, _⟩ := plainElem_int_inv Tryz.underlying3 hx
      rw [hat] at ha
      cases ha
      exact hrun
    have HR : Hid (∀ o : Obj, HoldPost B N b T w e (.returned (.int .i64 (n : Int))) (w.alloc o).drew) := fun o => ⟨n, T, _, rfl, (HP.out.alloc o).drew, TFr.above hBw ((Below.refl _ _).alloc (Nat.le_refl _) o).drew, .inl ⟨rfl, hn⟩⟩
    obtain ⟨k, a, b', x⟩ := e
    simp only [exC] at hlook2 ⊢
    have hrun := hlook2 (.cells #[.int .i64 (k : Int), .int .i64 (a : Int), .int .i64 (b' : Int), .int .i64 (x : Int)] 322)
    clear hlook hlook2 hh1 hh2 hm hn hat h hown htok hD hT he hni
    go_enter Tryz.func253, Tryz.ntmps253
    go_wp2_with fail
    refine still_all (by kernel_rfl) (by kernel_rfl) ?_
    repeat still_step
    refine wpStill_nil ?_
    go_wp2_with fail
    go_ret
    exact HR.out _
  · have hf : Maps.has D (keyE e) = false := by
      cases hq : Maps.has D (keyE e)
      · rfl
      · exact absurd (hh1.1 hq) hm
    have hlook2 : ∀ o, ∃ x, (Instr.lookup 267 (.map (some b)) (.agg (exC e).toArray) true).run Tryz.prog ((w.alloc o).drew) = .ok (.tuple #[x, .bool false]) ((w.alloc o).drew) := fun o => by
      obtain ⟨x, ps', hrun, hx⟩ := hlook o
      rw [hf] at hrun
      exact ⟨x, hrun⟩
    have HM := hide hm
    have hl' : T.length < maxLen := by unfold maxLen; omega
    have hw64 : (Lit.int .i64 (T.length : Int)).wf = true := by
      refine WalkArith.wf_i64 ?_ <;> omega
    obtain ⟨inf, hinf, hz, hsz1, hby⟩ := infoEx
    have HInf := hide hinf; have HZ := hide hz; have HSz := hide hsz1; have HBy := hide hby
    have HTk := hide (HTok.out.add HD.out HE.out HM.out)
    have HC : Hid (exC e = [.int .i64 (e.1 : Int), .int .i64 (e.2.1 : Int), .int .i64 (e.2.2.1 : Int), .int .i64 (e.2.2.2 : Int)]) := rfl
    obtain ⟨x, hrun⟩ := hlook2 (.cells (exC e).toArray 322)
    have HPd := hide ((HP.out.alloc (.cells (exC e).toArray 322)).drew.drew)
    have HOd := hide (((HOwn.out.alloc (.cells (exC e).toArray 322)).drew).drew)
    have HF0 : Hid ((w.alloc (.cells (exC e).toArray 322)).heap[w.heap.size]? = some (.cells (exC e).toArray 322)) := _root_.Go.heap_alloc_new w _
    have HB0 : Hid (Below w.heap.size w (w.alloc (.cells (exC e).toArray 322)).drew.drew) := ((Below.refl _ _).alloc (Nat.le_refl _) _).drew.drew
    clear hlook hlook2 hh1 hh2 hm hf h hown htok hD hT he hni hinf hz hsz1 hby
    obtain ⟨k, a, b', y⟩ := e
    simp only [exC] at *
    go_enter Tryz.func253, Tryz.ntmps253
    go_wp2_with fail
    refine still_all (by kernel_rfl) (by kernel_rfl) ?_
    repeat still_step
    refine wpStill_nil ?_
    go_wp2_with fail
    refine still_tail 6 (by kernel_rfl) (by kernel_rfl) ?_
    simp only [List.take_succ_cons, List.take_zero, List.drop_succ_cons, List.drop_zero]
    repeat still_step
    refine wpStill_nil ?_
    go_wp2_with (at_mapUpdate; refine wpList_mapUpdate_own _ rfl _ _ _ 267 rfl 322 3 lawE Tryz.underlying267 _ b T.length D rfl HOd.out hl' _ _ (keyE (k, a, b', y)) rfl rfl HK.out (.lit (.int .i64 (T.length : Int))) [] (plainElem_int Tryz.underlying3 hw64) ?_; intro w3 hown3 hgr3; have H3 := hide hown3; have HG3 := hide hgr3; clear hown3 hgr3)
    have hz3 : w.heap.size < w3.heap.size := Nat.lt_of_lt_of_le (by show w.heap.size < (w.alloc _).heap.size; rw [size_alloc1]; omega) HG3.out.size
    obtain ⟨⟨d0, d1, dfz, dls⟩, _⟩ := HPd.out.putM HG3.out
    have HLs := hide dls
    have hNb : w.heap.size ≠ b := fun e => HNi.out (.inr (.inl e))
    have hNN : w.heap.size ≠ N := fun e => by omega
    have hblk : w3.heap[w.heap.size]? = some (.cells #[.int .i64 (k : Int), .int .i64 (a : Int), .int .i64 (b' : Int), .int .i64 (y : Int)] 322) := (HG3.out.block w.heap.size (by show w.heap.size < (w.alloc _).heap.size; rw [size_alloc1]; omega) (fun e => hNb (Option.some.inj e))).trans HF0.out
    have q0 : w3.cell? ⟨w.heap.size, 0, none⟩ = some (.int .i64 (k : Int)) := by simp [World.cell?, hblk]
    have q1 : w3.cell? ⟨w.heap.size, 1, none⟩ = some (.int .i64 (a : Int)) := by simp [World.cell?, hblk]
    have q2 : w3.cell? ⟨w.heap.size, 2, none⟩ = some (.int .i64 (b' : Int)) := by simp [World.cell?, hblk]
    have q3 : w3.cell? ⟨w.heap.size, 3, none⟩ = some (.int .i64 (y : Int)) := by simp [World.cell?, hblk]
    have hN3 : N < w3.heap.size := block_lt_of_cell d0
    clear dls hrun hblk
    refine held_tail 6 2 (fun w' => w'.cell? ⟨N, 1, none⟩ = some (.slice va T.length vc) ∧ w'.cell? ⟨w.heap.size, 0, none⟩ = some (.int .i64 (k : Int)) ∧ w'.cell? ⟨w.heap.size, 1, none⟩ = some (.int .i64 (a : Int)) ∧ w'.cell? ⟨w.heap.size, 2, none⟩ = some (.int .i64 (b' : Int)) ∧ w'.cell? ⟨w.heap.size, 3, none⟩ = some (.int .i64 (y : Int))) (by kernel_rfl) (by kernel_rfl) (fun d _ _ _ _ h => by cases d <;> exact h) ⟨d1, q0, q1, q2, q3⟩ ?_
    simp only [List.take_succ_cons, List.take_zero, List.drop_succ_cons, List.drop_zero]
    iterate 6
      refine wpTake_step ?_ rfl ?_ ?_
      rotate_left
      · rintro w' ⟨e1, f0, f1, f2, f3⟩
        go_simp
        rfl
      go_simp
    refine wpTake_nil ?_
    refine wpTail_step rfl (fun K hK => ?_)
    go_simp
    refine hK _ _ ⟨(cellD w3 _ hN3 1).trans d1, (cellD w3 _ hz3 0).trans q0, (cellD w3 _ hz3 1).trans q1, (cellD w3 _ hz3 2).trans q2, (cellD w3 _ hz3 3).trans q3⟩ ?_
    clear hK K
    refine wpTail_step rfl (fun K hK => ?_)
    have HO5 : Hid (((w3.alloc (.cells #[.int .i64 (k : Int), .int .i64 (a : Int), .int .i64 (b' : Int), .int .i64 (y : Int)] 322)).drew).ownsRow B 322 4 (.slice va T.length vc) T.length (exCs T)) := ownsRow_keep HLs.out (fun g hg => Below.heap_alloc w3 _ g (row_lt HLs.out g hg).2)
    refine wp_append_lies _ _ _ 268 rfl B 322 inf _ 4 32 Tryz.underlying268 HInf.out HZ.out HSz.out HBy.out rfl (by decide) (.slice va T.length vc) T.length (exCs T) rfl HO5.out ⟨w3.heap.size, 0, none⟩ 1 1 (exC (k, a, b', y)) rfl rfl (World.news_of_block (_root_.Go.heap_alloc_new w3 _)) (fun u hu => by simp [exC] at hu; rcases hu with rfl | rfl | rfl | rfl <;> rfl) (by decide) (by unfold maxLen; omega) (by omega) (by show B ≤ (w3.alloc _).heap.size; rw [size_alloc1]; omega) (w3.heap.size + 1) (by show (w3.alloc _).heap.size = _; rw [size_alloc1]) ?_
    intro g cap w4 hown4 hgr4 hat4 hlt4
    have HE4 := hide (hold_end HP.out HB0.out HG3.out H3.out HTk.out (((Below.refl _ _).alloc (Nat.le_refl _) _).drew) g cap hown4 hgr4 (hat4.imp id (fun q => by omega)))
    have hNo : some N ≠ (Value.slice va T.length vc).ownBlock := fun q => HP.out.nv N q.symm rfl
    have hwo : some w.heap.size ≠ (Value.slice va T.length vc).ownBlock := fun q => HNi.out (.inr (.inr q.symm))
    have k1 : ∀ j, w4.cell? ⟨N, j, none⟩ = w3.cell? ⟨N, j, none⟩ := fun j => by
      rw [hgr4.cell_far ⟨N, j, none⟩ (by show N < (w3.alloc _).heap.size; rw [size_alloc1]; omega) hNo]
      exact World.cell?_of_block (Below.heap_alloc w3 _ N hN3)
    have k2 : ∀ j, w4.frozen? ⟨N, j, none⟩ = false := fun j => by
      rw [hgr4.frozen_far ⟨N, j, none⟩ (by show N < (w3.alloc _).heap.size; rw [size_alloc1]; omega) hNo]
      exact (World.frozen?_of_block (w := w3) (Below.heap_alloc w3 _ N hN3)).trans (dfz j)
    have k3 : ∀ j, w4.cell? ⟨w.heap.size, j, none⟩ = w3.cell? ⟨w.heap.size, j, none⟩ := fun j => by
      rw [hgr4.cell_far ⟨w.heap.size, j, none⟩ (by show w.heap.size < (w3.alloc _).heap.size; rw [size_alloc1]; omega) hwo]
      exact World.cell?_of_block (Below.heap_alloc w3 _ w.heap.size hz3)
    refine hK _ _ ⟨(k1 1).trans d1, (k3 0).trans q0, (k3 1).trans q1, (k3 2).trans q2, (k3 3).trans q3⟩ ?_
    have k10 := (k1 0).trans d0
    have k11 := (k1 1).trans d1
    clear hown4 hgr4 hat4 hK K k1 k3 dfz d0 d1 q0 q1 q2 q3
    unfold wpTailS
    go_wp2_with fail
    go_ret
    exact ⟨T.length, T ++ [(k, a, b', y)], _, rfl, HE4.out.1, HE4.out.2, .inr ⟨rfl, rfl, HM.out⟩⟩
end Go.Proofs.YtmmflekajbeamaaGreatDoor
