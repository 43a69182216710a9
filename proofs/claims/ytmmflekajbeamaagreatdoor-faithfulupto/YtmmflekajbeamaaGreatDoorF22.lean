/-
  The engine: the areas' bytes (readAreas).
  The engine: the area that counts (currentOf).
  The engine: what an area's frames tell, for its opening; the opening as mathematics.
-/
import Derived.Test.YtmmflekajbeamaaGreatDoorF21
namespace Go.Proofs.YtmmflekajbeamaaGreatDoor
open Go.RowKit Go.Maps Go.WideMaps

/-- All areas made lasting, then read. -/
def readE {α : Type} (o : Dev α) (g : EgN) (d : α) : Int × EgN × α × List UInt8 × List UInt8 :=
  if (o.sync d 0).1 = 0 then
    (if (o.sync (o.sync d 0).2 1).1 = 0 then
      (if (o.read (o.sync (o.sync d 0).2 1).2 0).2.1 = 0 then
        (if (o.read (o.read (o.sync (o.sync d 0).2 1).2 0).2.2 1).2.1 = 0 then (0, g, (o.read (o.read (o.sync (o.sync d 0).2 1).2 0).2.2 1).2.2, (o.read (o.sync (o.sync d 0).2 1).2 0).1, (o.read (o.read (o.sync (o.sync d 0).2 1).2 0).2.2 1).1)
         else (15, failE g, (o.read (o.read (o.sync (o.sync d 0).2 1).2 0).2.2 1).2.2, [], []))
       else (15, failE g, (o.read (o.sync (o.sync d 0).2 1).2 0).2.2, [], []))
     else (15, failE g, (o.sync (o.sync d 0).2 1).2, [], []))
  else (15, failE g, (o.sync d 0).2, [], [])
theorem EdAt.setBox {E D : Nat} {g : EgN} {d : DvN} {m v vs : Nat → Value} {w : World} (h : EdAt E D g d m v vs w) {x : Nat} (hx : ¬ eHas E m v x ∧ ¬ dHas D vs x) (j : Nat) (u : Value) : EdAt E D g d m v vs (w.setCell ⟨x, j, none⟩ u) :=
  ⟨h.eg.kept (fun y q => set_other (fun e => hx.1 (e ▸ q))), h.dv.kept (by rw [set_size]; exact Nat.le_refl _) (fun y q => set_other (fun e => hx.2 (e ▸ q))), h.sep⟩
theorem EdFr.setBox {E D : Nat} {m v vs m' v' vs' : Nat → Value} {w w' : World} (h : EdFr E D m v vs m' v' vs' w w') {x : Nat} (hx : w.heap.size ≤ x) (j : Nat) (u : Value) : EdFr E D m v vs m' v' vs' w (w'.setCell ⟨x, j, none⟩ u) :=
  ⟨h.chg.trans (fun y q => .inr (by rw [q]; exact hx)) (Chg.set w' x j u), h.eo, h.vo⟩
def txV (a b : ByteArray) : Array Value := #[.string a, .string b]
/-- What the reading of the areas leaves. -/
def RaPost (E D : Nat) (m v vs : Nat → Value) (w : World) (r : Int × EgN × DvN × List UInt8 × List UInt8) (e' : Ending) (w' : World) : Prop :=
  ∃ t0 t1, e' = .returned (.tuple #[.agg (txV t0 t1), .int .i64 r.1]) ∧ (r.1 = 0 → t0 = bya r.2.2.2.1 ∧ t1 = bya r.2.2.2.2) ∧ ∃ m' v' vs', EdAt E D r.2.1 r.2.2.1 m' v' vs' w' ∧ EdFr E D m v vs m' v' vs' w w'
theorem sizeTx : (Tryz.prog.info? 177).map (·.size) = some 2 := by kernel_rfl
theorem res_tx {fn : Func} {p u : Tmp} (h : fn.results = #[.cell p 177, .tmp u]) (tmps : Array Value) (w : World) (x : Nat) (a b : ByteArray)
    (hp : tmps.getD p undef = .pointer (some ⟨x, 0, none⟩)) (hg : w.heap[x]? = some (.cells (txV a b) 177 (0, 0))) (y : Value) (hu : tmps.getD u undef = y) :
    (results fn tmps).run Tryz.prog w = .ok (.tuple #[.agg (txV a b), y]) w := by
  rw [results_cell_tmp h, hp, hu]
  simp only [asAddr, Sem.run_pure, Result.andThen]
  rw [run_loadVar_row w x 177 177 (txV a b) (0, 0) _ hg Tryz.underlying177 rfl (by rw [sizeTx]; rfl)]
/-- In the midst of the reading: two boxes were laid; of the texts these were read. -/
structure RaI (E D : Nat) (g : EgN) (m v vs : Nat → Value) (w : World) (t0 t1 : ByteArray) (d' : DvN) (vs' : Nat → Value) (wr : World) : Prop where
  k : EdAt E D g d' m v vs' wr
  f : EdFr E D m v vs m v vs' w wr
  nb : ∀ b, b = w.heap.size ∨ b = w.heap.size + 1 → ¬ eHas E m v b ∧ ¬ dHas D vs' b
  r0 : wr.heap[w.heap.size]? = some (.cells (txV ⟨#[]⟩ ⟨#[]⟩) 177 (0, 0))
  r1 : wr.heap[w.heap.size + 1]? = some (.cells (txV t0 t1) 177 (0, 0))
theorem RaI.new {E D : Nat} {g : EgN} {d : DvN} {m v vs : Nat → Value} {w : World} (h : EdAt E D g d m v vs w) (W : World) (hW : W = (w.alloc (.cells (txV ⟨#[]⟩ ⟨#[]⟩) 177)).alloc (.cells (txV ⟨#[]⟩ ⟨#[]⟩) 177)) : RaI E D g m v vs w ⟨#[]⟩ ⟨#[]⟩ d vs W := by
  have hs1 : (w.alloc (.cells (txV ⟨#[]⟩ ⟨#[]⟩) 177)).heap.size = w.heap.size + 1 := size_alloc1 _ _
  have hb : Below w.heap.size w W := by rw [hW]; exact ((Below.refl _ _).alloc (Nat.le_refl _) _).alloc (by rw [size_alloc1]; omega) _
  refine ⟨h.up hb, EdFr.of_below hb, fun b hb => ⟨fun q => ?_, fun q => ?_⟩, ?_, ?_⟩
  · have := (h.eg.has q).2; omega
  · have := (h.dv.has q).2; omega
  · rw [hW, Below.heap_alloc _ _ _ (by rw [hs1]; omega), _root_.Go.heap_alloc_new]
  · rw [hW, ← hs1, _root_.Go.heap_alloc_new]
theorem RaI.lt {E D : Nat} {g : EgN} {m v vs : Nat → Value} {w : World} {t0 t1 : ByteArray} {d' : DvN} {vs' : Nat → Value} {wr : World} (h : RaI E D g m v vs w t0 t1 d' vs' wr) : w.heap.size + 1 < wr.heap.size := (Array.getElem?_eq_some_iff.1 h.r1).1
/-- Behind what turns the engine's blocks and the device's alone. -/
theorem RaI.rows {E D : Nat} {g : EgN} {m v vs : Nat → Value} {w : World} {t0 t1 : ByteArray} {d' : DvN} {vs' : Nat → Value} {wr : World} (h : RaI E D g m v vs w t0 t1 d' vs' wr) {m2 v2 vs2 : Nat → Value} {w2 : World} (f : EdFr E D m v vs' m2 v2 vs2 wr w2) : w2.heap[w.heap.size]? = some (.cells (txV ⟨#[]⟩ ⟨#[]⟩) 177 (0, 0)) ∧ w2.heap[w.heap.size + 1]? = some (.cells (txV t0 t1) 177 (0, 0)) := by
  have hl := h.lt
  exact ⟨(f.chg.other _ (by omega) (fun q => q.elim (h.nb _ (.inl rfl)).1 (h.nb _ (.inl rfl)).2)).trans h.r0, (f.chg.other _ (by omega) (fun q => q.elim (h.nb _ (.inr rfl)).1 (h.nb _ (.inr rfl)).2)).trans h.r1⟩
theorem RaI.dev {E D : Nat} {g : EgN} {m v vs : Nat → Value} {w : World} {t0 t1 : ByteArray} {d' d2 : DvN} {vs' vs2 : Nat → Value} {wr w2 : World} (h : RaI E D g m v vs w t0 t1 d' vs' wr) (hd : DvAt D d2 vs2 w2) (hf : DFr D vs' vs2 wr w2) : RaI E D g m v vs w t0 t1 d2 vs2 w2 := by
  obtain ⟨k2, f2⟩ := h.k.dev hd hf
  have hl := h.lt
  obtain ⟨r0, r1⟩ := h.rows f2
  refine ⟨k2, h.f.trans f2, fun b hb => ⟨(h.nb b hb).1, fun q => ?_⟩, r0, r1⟩
  rcases f2.vo b q with a | a
  · exact (h.nb b hb).2 a
  · omega
theorem RaI.text {E D : Nat} {g : EgN} {m v vs : Nat → Value} {w : World} {t0 t1 : ByteArray} {d' : DvN} {vs' : Nat → Value} {wr : World} (h : RaI E D g m v vs w t0 t1 d' vs' wr) (j : Nat) (t s0 s1 : ByteArray) (hs : (txV t0 t1).setIfInBounds j (.string t) = txV s0 s1) : RaI E D g m v vs w s0 s1 d' vs' (wr.setCell ⟨w.heap.size + 1, j, none⟩ (.string t)) := by
  refine ⟨h.k.setBox (h.nb _ (.inr rfl)) j _, h.f.setBox (Nat.le_succ _) j _, h.nb, (set_other (by omega)).trans h.r0, ?_⟩
  rw [← hs]
  simp [World.setCell, Array.getElem?_modify, h.r1]
/-- The end: the texts are handed out. -/
theorem RaI.fin {E D : Nat} {g : EgN} {m v vs : Nat → Value} {w : World} {t0 t1 : ByteArray} {d' : DvN} {vs' : Nat → Value} {wr : World} (h : RaI E D g m v vs w t0 t1 d' vs' wr) {g2 : EgN} {d2 : DvN} {m2 v2 vs2 : Nat → Value} {w2 : World} (k : EdAt E D g2 d2 m2 v2 vs2 w2) (f : EdFr E D m v vs' m2 v2 vs2 wr w2) (r : Int × EgN × DvN × List UInt8 × List UInt8) (h1 : r.2.1 = g2) (h2 : r.2.2.1 = d2) (h3 : r.1 = 0 → t0 = bya r.2.2.2.1 ∧ t1 = bya r.2.2.2.2) (n : Int) (hn : r.1 = n) (Wf : World) (hW : Wf = (w2.setCell ⟨w.heap.size, 0, none⟩ (.string t0)).setCell ⟨w.heap.size, 1, none⟩ (.string t1)) :
    Wf.heap[w.heap.size]? = some (.cells (txV t0 t1) 177 (0, 0)) ∧ RaPost E D m v vs w r (.returned (.tuple #[.agg (txV t0 t1), .int .i64 n])) Wf := by
  obtain ⟨r0, _⟩ := h.rows f
  have hl := h.lt
  have hx : ¬ eHas E m2 v2 w.heap.size ∧ ¬ dHas D vs2 w.heap.size := by
    refine ⟨fun q => ?_, fun q => ?_⟩
    · rcases f.eo _ q with a | a
      · exact (h.nb _ (.inl rfl)).1 a
      · omega
    · rcases f.vo _ q with a | a
      · exact (h.nb _ (.inl rfl)).2 a
      · omega
  refine ⟨by rw [hW]; simp [World.setCell, Array.getElem?_modify, r0, txV], t0, t1, by rw [hn], h3, m2, v2, vs2, ?_, ?_⟩
  · rw [h1, h2, hW]
    exact (k.setBox hx 0 _).setBox hx 1 _
  · rw [hW]
    exact ((h.f.trans f).setBox (Nat.le_refl _) 0 _).setBox (Nat.le_refl _) 1 _
theorem readE_d (g : EgN) (d : DvN) : readE dOps g d = if (dSync d 0).1 = 0 then
    (if (dSync (dSync d 0).2 1).1 = 0 then
      (if (dRead (dSync (dSync d 0).2 1).2 0).2.1 = 0 then
        (if (dRead (dRead (dSync (dSync d 0).2 1).2 0).2.2 1).2.1 = 0 then (0, g, (dRead (dRead (dSync (dSync d 0).2 1).2 0).2.2 1).2.2, (dRead (dSync (dSync d 0).2 1).2 0).1, (dRead (dRead (dSync (dSync d 0).2 1).2 0).2.2 1).1)
         else (15, failE g, (dRead (dRead (dSync (dSync d 0).2 1).2 0).2.2 1).2.2, [], []))
       else (15, failE g, (dRead (dSync (dSync d 0).2 1).2 0).2.2, [], []))
     else (15, failE g, (dSync (dSync d 0).2 1).2, [], []))
  else (15, failE g, (dSync d 0).2, [], []) := rfl
set_option maxRecDepth 100000 in
set_option maxHeartbeats 8000000 in
theorem readAreas_any (E D : Nat) (g : EgN) (d : DvN) (m v vs : Nat → Value) (w : World) (h : EdAt E D g d m v vs w) :
    Calls Tryz.prog 149 #[.pointer (some ⟨E, 0, none⟩)] w (RaPost E D m v vs w (readE dOps g d)) := by
  obtain ⟨W0, hW0⟩ : ∃ W0, W0 = (w.alloc (.cells (txV ⟨#[]⟩ ⟨#[]⟩) 177)).alloc (.cells (txV ⟨#[]⟩ ⟨#[]⟩) 177) := ⟨_, rfl⟩
  have H0 := hide (RaI.new h W0 hW0)
  have HW0 := hide hW0
  have HTo := hide (fun w' => eturn_ok E w')
  have hE0 : ∀ d' vs' wr, EdAt E D g d' m v vs' wr → wr.cell? ⟨E, 0, none⟩ = some (.pointer (some ⟨D, 0, none⟩)) := fun d' vs' wr k => k.eg.sc 0 (.inl (by decide))
  have HE0 := hide hE0
  have HNo := hide (fun d' vs' w' a (h' : EdAt E D g d' m v vs' w') (ha : a ≠ 0) => eturn_no E D g d' m v vs' a w' h' ha)
  have HY0 : Hid (∀ vs' w', DvAt D d vs' w' → Calls Tryz.prog 56 #[.pointer (some ⟨D, 0, none⟩), .int .i64 0] w' (DPost D vs' w' (dSync d 0).1 (dSync d 0).2)) := fun vs' w' h' => dSync_any D d vs' 0 w' h'
  rw [readE_d]
  generalize dSync d 0 = s1 at *
  obtain ⟨a1, d1⟩ := s1
  simp only at HY0 ⊢
  have HY1 : Hid (∀ vs' w', DvAt D d1 vs' w' → Calls Tryz.prog 56 #[.pointer (some ⟨D, 0, none⟩), .int .i64 1] w' (DPost D vs' w' (dSync d1 1).1 (dSync d1 1).2)) := fun vs' w' h' => dSync_any D d1 vs' 1 w' h'
  generalize dSync d1 1 = s2 at *
  obtain ⟨a2, d2⟩ := s2
  simp only at HY1 ⊢
  have HY2 : Hid (∀ vs' w', DvAt D d2 vs' w' → Calls Tryz.prog 100 #[.pointer (some ⟨D, 0, none⟩), .int .i64 0] w' fun e' w'' => e' = .returned (.tuple #[.string (bya (dRead d2 0).1), .int .i64 (dRead d2 0).2.1]) ∧ ∃ vs'', DvAt D (dRead d2 0).2.2 vs'' w'' ∧ DFr D vs' vs'' w' w'') := fun vs' w' h' => dRead_any D d2 vs' 0 w' h'
  generalize dRead d2 0 = s3 at *
  obtain ⟨x1, a3, d3⟩ := s3
  simp only at HY2 ⊢
  have HY3 : Hid (∀ vs' w', DvAt D d3 vs' w' → Calls Tryz.prog 100 #[.pointer (some ⟨D, 0, none⟩), .int .i64 1] w' fun e' w'' => e' = .returned (.tuple #[.string (bya (dRead d3 1).1), .int .i64 (dRead d3 1).2.1]) ∧ ∃ vs'', DvAt D (dRead d3 1).2.2 vs'' w'' ∧ DFr D vs' vs'' w' w'') := fun vs' w' h' => dRead_any D d3 vs' 1 w' h'
  generalize dRead d3 1 = s4 at *
  obtain ⟨x2, a4, d4⟩ := s4
  simp only at HY3 ⊢
  obtain ⟨RR, hRR⟩ : ∃ RR : Int × EgN × DvN × List UInt8 × List UInt8, RR = (if a1 = 0 then (if a2 = 0 then (if a3 = 0 then (if a4 = 0 then (0, g, d4, x1, x2) else (15, failE g, d4, [], [])) else (15, failE g, d3, [], [])) else (15, failE g, d2, [], [])) else (15, failE g, d1, [], [])) := ⟨_, rfl⟩
  rw [← hRR]
  have HRR := hide hRR
  clear h hW0 hRR hE0
  go_enter Tryz.func149, Tryz.ntmps149
  go_wp2_with fail
  have hww := HW0.out
  unfold txV at hww
  rw [← hww]
  clear hww
  go_loopw [11] (fun i wr => ∃ d' vs', Hid (RaI E D g m v vs w ⟨#[]⟩ ⟨#[]⟩ d' vs' wr) ∧ ((i = .int .i64 0 ∧ d' = d) ∨ (i = .int .i64 1 ∧ d' = d1 ∧ a1 = 0) ∨ (i = .int .i64 2 ∧ d' = d2 ∧ a1 = 0 ∧ a2 = 0))) (fun i _ => 2 - (intOf i).toNat)
  case atStart => exact ⟨d, vs, H0.out, .inl ⟨rfl, rfl⟩⟩
  case round =>
    obtain ⟨d', vs', HI, ⟨rfl, rfl⟩ | ⟨rfl, rfl, rfl⟩ | ⟨rfl, rfl, rfl, rfl⟩⟩ := hrel
    · have c0 := HE0.out _ _ _ HI.out.k
      go_wp2_with fail
      refine (unhide HY0 _ _ HI.out.k.dv).mono ?_
      rintro e w1 ⟨rfl, vs1, hd1, hf1⟩
      have HI1 := hide (HI.out.dev hd1 hf1)
      clear hd1 hf1 c0
      by_cases ha : a1 = 0
      · subst ha
        go_wp2_with fail
        refine (unhide HTo _).mono ?_
        rintro e w' ⟨rfl, hw'⟩
        obtain rfl := hw'.symm
        go_wp2_with fail
        exact ⟨⟨_, _, HI1.out, .inr (.inl ⟨rfl, rfl, trivial⟩)⟩, by simp [intOf]⟩
      · have HN := hide (HNo.out _ _ _ a1 HI1.out.k ha)
        have HR : Hid (RR = (15, failE g, d1, [], [])) := by unfold Hid; rw [HRR.out]; simp [ha]
        clear ha
        go_wp2_with fail
        refine (unhide HN).mono ?_
        rintro e w2 ⟨rfl, m2, v2, vs2, k2, f2⟩
        have HF := hide (fun Wf => HI1.out.fin k2 f2 RR (by rw [HR.out]) (by rw [HR.out]) (fun q => by rw [HR.out] at q; cases q) 15 (by rw [HR.out]) Wf)
        obtain ⟨r0, r1⟩ := HI1.out.rows f2
        have s0 : w2.cell? ⟨w.heap.size + 1, 0, none⟩ = some (.string ⟨#[]⟩) := by simp [World.cell?, r1, txV]
        have s1 : w2.cell? ⟨w.heap.size + 1, 1, none⟩ = some (.string ⟨#[]⟩) := by simp [World.cell?, r1, txV]
        have q0 : w2.cell? ⟨w.heap.size, 0, none⟩ = some (.string ⟨#[]⟩) := by simp [World.cell?, r0, txV]
        have q1 : w2.cell? ⟨w.heap.size, 1, none⟩ = some (.string ⟨#[]⟩) := by simp [World.cell?, r0, txV]
        have g0 : w2.frozen? ⟨w.heap.size, 0, none⟩ = false := by simp [World.frozen?, r0]
        have g1 : w2.frozen? ⟨w.heap.size, 1, none⟩ = false := by simp [World.frozen?, r0]
        clear r0 r1 k2 f2 HN
        go_wp2_with fail
        exact bodyPost_ret (v := .tuple #[.agg (txV ⟨#[]⟩ ⟨#[]⟩), .int .i64 15]) (res_tx Tryz.results149 _ _ w.heap.size _ _ rfl (HF.out _ rfl).1 _ rfl) rfl (HF.out _ rfl).2
    · have c0 := HE0.out _ _ _ HI.out.k
      go_wp2_with fail
      refine (unhide HY1 _ _ HI.out.k.dv).mono ?_
      rintro e w1 ⟨rfl, vs1, hd1, hf1⟩
      have HI1 := hide (HI.out.dev hd1 hf1)
      clear hd1 hf1 c0
      by_cases ha : a2 = 0
      · subst ha
        go_wp2_with fail
        refine (unhide HTo _).mono ?_
        rintro e w' ⟨rfl, hw'⟩
        obtain rfl := hw'.symm
        go_wp2_with fail
        exact ⟨⟨_, _, HI1.out, .inr (.inr ⟨rfl, rfl, trivial, trivial⟩)⟩, by simp [intOf]⟩
      · have HN := hide (HNo.out _ _ _ a2 HI1.out.k ha)
        have HR : Hid (RR = (15, failE g, d2, [], [])) := by unfold Hid; rw [HRR.out]; simp [ha]
        clear ha
        go_wp2_with fail
        refine (unhide HN).mono ?_
        rintro e w2 ⟨rfl, m2, v2, vs2, k2, f2⟩
        have HF := hide (fun Wf => HI1.out.fin k2 f2 RR (by rw [HR.out]) (by rw [HR.out]) (fun q => by rw [HR.out] at q; cases q) 15 (by rw [HR.out]) Wf)
        obtain ⟨r0, r1⟩ := HI1.out.rows f2
        have s0 : w2.cell? ⟨w.heap.size + 1, 0, none⟩ = some (.string ⟨#[]⟩) := by simp [World.cell?, r1, txV]
        have s1 : w2.cell? ⟨w.heap.size + 1, 1, none⟩ = some (.string ⟨#[]⟩) := by simp [World.cell?, r1, txV]
        have q0 : w2.cell? ⟨w.heap.size, 0, none⟩ = some (.string ⟨#[]⟩) := by simp [World.cell?, r0, txV]
        have q1 : w2.cell? ⟨w.heap.size, 1, none⟩ = some (.string ⟨#[]⟩) := by simp [World.cell?, r0, txV]
        have g0 : w2.frozen? ⟨w.heap.size, 0, none⟩ = false := by simp [World.frozen?, r0]
        have g1 : w2.frozen? ⟨w.heap.size, 1, none⟩ = false := by simp [World.frozen?, r0]
        clear r0 r1 k2 f2 HN
        go_wp2_with fail
        exact bodyPost_ret (v := .tuple #[.agg (txV ⟨#[]⟩ ⟨#[]⟩), .int .i64 15]) (res_tx Tryz.results149 _ _ w.heap.size _ _ rfl (HF.out _ rfl).1 _ rfl) rfl (HF.out _ rfl).2
    · go_wp2_with fail
      obtain ⟨wo, hwo⟩ : ∃ wo, wo = wr := ⟨_, rfl⟩
      subst hwo
      go_loopw [27] (fun i wr => ∃ dq vs' t0 t1, Hid (RaI E D g m v vs w t0 t1 dq vs' wr) ∧ ((i = .int .i64 0 ∧ dq = d' ∧ t0 = ⟨#[]⟩ ∧ t1 = ⟨#[]⟩) ∨ (i = .int .i64 1 ∧ dq = d3 ∧ a3 = 0 ∧ t0 = bya x1 ∧ t1 = ⟨#[]⟩) ∨ (i = .int .i64 2 ∧ dq = d4 ∧ a3 = 0 ∧ a4 = 0 ∧ t0 = bya x1 ∧ t1 = bya x2))) (fun i _ => 2 - (intOf i).toNat)
      case atStart => exact ⟨_, _, _, _, HI.out, .inl ⟨rfl, rfl, rfl, rfl⟩⟩
      case round =>
      clear HI
      obtain ⟨dq, vs', t0, t1, HI, ⟨rfl, rfl, rfl, rfl⟩ | ⟨rfl, rfl, rfl, rfl, rfl⟩ | ⟨rfl, rfl, rfl, rfl, rfl, rfl⟩⟩ := hrel
      · have c0 := HE0.out _ _ _ HI.out.k
        go_wp2_with fail
        refine (unhide HY2 _ _ HI.out.k.dv).mono ?_
        rintro e w1 ⟨rfl, vs1, hd1, hf1⟩
        have HI1 := hide (HI.out.dev hd1 hf1)
        clear hd1 hf1 c0
        by_cases ha : a3 = 0
        · subst ha
          have HI2 := hide (HI1.out.text 0 (bya x1) (bya x1) ⟨#[]⟩ rfl)
          have r1 := HI1.out.r1
          have s0 : w1.cell? ⟨w.heap.size + 1, 0, none⟩ = some (.string ⟨#[]⟩) := by simp [World.cell?, r1, txV]
          have g0 : w1.frozen? ⟨w.heap.size + 1, 0, none⟩ = false := by simp [World.frozen?, r1]
          clear r1
          go_wp2_with fail
          refine (unhide HTo _).mono ?_
          rintro e w' ⟨rfl, hw'⟩
          obtain rfl := hw'.symm
          go_wp2_with fail
          exact ⟨⟨_, _, _, _, HI2.out, .inr (.inl ⟨rfl, rfl, trivial, rfl, rfl⟩)⟩, by simp [intOf]⟩
        · have HN := hide (HNo.out _ _ _ a3 HI1.out.k ha)
          have HR : Hid (RR = (15, failE g, d3, [], [])) := by unfold Hid; rw [HRR.out]; simp [ha]
          clear ha
          go_wp2_with fail
          refine (unhide HN).mono ?_
          rintro e w2 ⟨rfl, m2, v2, vs2, k2, f2⟩
          have HF := hide (fun Wf => HI1.out.fin k2 f2 RR (by rw [HR.out]) (by rw [HR.out]) (fun q => by rw [HR.out] at q; cases q) 15 (by rw [HR.out]) Wf)
          obtain ⟨r0, r1⟩ := HI1.out.rows f2
          have s0 : w2.cell? ⟨w.heap.size + 1, 0, none⟩ = some (.string ⟨#[]⟩) := by simp [World.cell?, r1, txV]
          have s1 : w2.cell? ⟨w.heap.size + 1, 1, none⟩ = some (.string ⟨#[]⟩) := by simp [World.cell?, r1, txV]
          have q0 : w2.cell? ⟨w.heap.size, 0, none⟩ = some (.string ⟨#[]⟩) := by simp [World.cell?, r0, txV]
          have q1 : w2.cell? ⟨w.heap.size, 1, none⟩ = some (.string ⟨#[]⟩) := by simp [World.cell?, r0, txV]
          have g0 : w2.frozen? ⟨w.heap.size, 0, none⟩ = false := by simp [World.frozen?, r0]
          have g1 : w2.frozen? ⟨w.heap.size, 1, none⟩ = false := by simp [World.frozen?, r0]
          clear r0 r1 k2 f2 HN
          go_wp2_with fail
          exact bodyPost_ret (v := .tuple #[.agg (txV ⟨#[]⟩ ⟨#[]⟩), .int .i64 15]) (res_tx Tryz.results149 _ _ w.heap.size _ _ rfl (HF.out _ rfl).1 _ rfl) rfl (HF.out _ rfl).2
      · have c0 := HE0.out _ _ _ HI.out.k
        go_wp2_with fail
        refine (unhide HY3 _ _ HI.out.k.dv).mono ?_
        rintro e w1 ⟨rfl, vs1, hd1, hf1⟩
        have HI1 := hide (HI.out.dev hd1 hf1)
        clear hd1 hf1 c0
        by_cases ha : a4 = 0
        · subst ha
          have HI2 := hide (HI1.out.text 1 (bya x2) (bya x1) (bya x2) rfl)
          have r1 := HI1.out.r1
          have s0 : w1.cell? ⟨w.heap.size + 1, 1, none⟩ = some (.string ⟨#[]⟩) := by simp [World.cell?, r1, txV]
          have g0 : w1.frozen? ⟨w.heap.size + 1, 1, none⟩ = false := by simp [World.frozen?, r1]
          clear r1
          go_wp2_with fail
          refine (unhide HTo _).mono ?_
          rintro e w' ⟨rfl, hw'⟩
          obtain rfl := hw'.symm
          go_wp2_with fail
          exact ⟨⟨_, _, _, _, HI2.out, .inr (.inr ⟨rfl, rfl, trivial, trivial, rfl, rfl⟩)⟩, by simp [intOf]⟩
        · have HN := hide (HNo.out _ _ _ a4 HI1.out.k ha)
          have HR : Hid (RR = (15, failE g, d4, [], [])) := by unfold Hid; rw [HRR.out]; simp [ha]
          clear ha
          go_wp2_with fail
          refine (unhide HN).mono ?_
          rintro e w2 ⟨rfl, m2, v2, vs2, k2, f2⟩
          have HF := hide (fun Wf => HI1.out.fin k2 f2 RR (by rw [HR.out]) (by rw [HR.out]) (fun q => by rw [HR.out] at q; cases q) 15 (by rw [HR.out]) Wf)
          obtain ⟨r0, r1⟩ := HI1.out.rows f2
          have s0 : w2.cell? ⟨w.heap.size + 1, 0, none⟩ = some (.string (bya x1)) := by simp [World.cell?, r1, txV]
          have s1 : w2.cell? ⟨w.heap.size + 1, 1, none⟩ = some (.string ⟨#[]⟩) := by simp [World.cell?, r1, txV]
          have q0 : w2.cell? ⟨w.heap.size, 0, none⟩ = some (.string ⟨#[]⟩) := by simp [World.cell?, r0, txV]
          have q1 : w2.cell? ⟨w.heap.size, 1, none⟩ = some (.string ⟨#[]⟩) := by simp [World.cell?, r0, txV]
          have g0 : w2.frozen? ⟨w.heap.size, 0, none⟩ = false := by simp [World.frozen?, r0]
          have g1 : w2.frozen? ⟨w.heap.size, 1, none⟩ = false := by simp [World.frozen?, r0]
          clear r0 r1 k2 f2 HN
          go_wp2_with fail
          exact bodyPost_ret (v := .tuple #[.agg (txV (bya x1) ⟨#[]⟩), .int .i64 15]) (res_tx Tryz.results149 _ _ w.heap.size _ _ rfl (HF.out _ rfl).1 _ rfl) rfl (HF.out _ rfl).2
      · have HR : Hid (RR = (0, g, dq, x1, x2)) := by unfold Hid; rw [HRR.out]; simp
        have HF := hide (fun Wf => HI.out.fin HI.out.k (EdFr.refl _ _ _ _ _ _) RR (by rw [HR.out]) (by rw [HR.out]) (fun _ => by rw [HR.out]; exact ⟨rfl, rfl⟩) 0 (by rw [HR.out]) Wf)
        have r0 := HI.out.r0; have r1 := HI.out.r1
        have s0 : wr.cell? ⟨w.heap.size + 1, 0, none⟩ = some (.string (bya x1)) := by simp [World.cell?, r1, txV]
        have s1 : wr.cell? ⟨w.heap.size + 1, 1, none⟩ = some (.string (bya x2)) := by simp [World.cell?, r1, txV]
        have q0 : wr.cell? ⟨w.heap.size, 0, none⟩ = some (.string ⟨#[]⟩) := by simp [World.cell?, r0, txV]
        have q1 : wr.cell? ⟨w.heap.size, 1, none⟩ = some (.string ⟨#[]⟩) := by simp [World.cell?, r0, txV]
        have g0 : wr.frozen? ⟨w.heap.size, 0, none⟩ = false := by simp [World.frozen?, r0]
        have g1 : wr.frozen? ⟨w.heap.size, 1, none⟩ = false := by simp [World.frozen?, r0]
        clear r0 r1
        go_wp2_with fail
        exact bodyPost_ret (v := .tuple #[.agg (txV (bya x1) (bya x2)), .int .i64 0]) (res_tx Tryz.results149 _ _ w.heap.size _ _ rfl (HF.out _ rfl).1 _ rfl) rfl (HF.out _ rfl).2
end Go.Proofs.YtmmflekajbeamaaGreatDoor

namespace Go.Proofs.YtmmflekajbeamaaGreatDoor
open Go.RowKit Go.Maps Go.WideMaps

def cur1 (a : ArN) : Nat := if a.whole = true then a.gen else 0
def cur2 (a b : ArN) : Nat × Nat := if b.whole = true ∧ cur1 a < b.gen then (1, b.gen) else (0, cur1 a)
def arsV (a b : ArN) (u v : Value) : Array Value := #[.int .i64 (a.gen : Int), .bool a.whole, .int .i64 (a.good : Int), u, .int .i64 (b.gen : Int), .bool b.whole, .int .i64 (b.good : Int), v]
set_option maxRecDepth 100000 in
theorem idx_a0 (x0 x1 x2 x3 x4 x5 x6 x7 : Value) (w : World) : (Instr.index 205 (.agg #[x0, x1, x2, x3, x4, x5, x6, x7]) (.int .i64 0)).run Tryz.prog w = .ok (.agg #[x0, x1, x2, x3]) w := by kernel_rfl
set_option maxRecDepth 100000 in
theorem idx_a1 (x0 x1 x2 x3 x4 x5 x6 x7 : Value) (w : World) : (Instr.index 205 (.agg #[x0, x1, x2, x3, x4, x5, x6, x7]) (.int .i64 1)).run Tryz.prog w = .ok (.agg #[x4, x5, x6, x7]) w := by kernel_rfl
set_option maxRecDepth 100000 in
set_option maxHeartbeats 4000000 in
theorem currentOf_any (a b : ArN) (ua : Option Addr) (un uc : Nat) (va : Option Addr) (vn vc : Nat) (w : World) :
    Calls Tryz.prog 151 #[.agg (arsV a b (.slice ua un uc) (.slice va vn vc))] w fun e' w' => e' = .returned (.tuple #[.int .i64 ((cur2 a b).1 : Int), .bool (decide (0 < (cur2 a b).2))]) ∧ Below w.heap.size w w' := by
  obtain ⟨g0, w0, d0, l0⟩ := a
  obtain ⟨g1, w1, d1, l1⟩ := b
  have HB0 : Hid (∀ ob : Obj, Below w.heap.size w (w.alloc ob)) := fun ob => (Below.refl _ _).alloc (Nat.le_refl _) ob
  have ix0 := idx_a0; have ix1 := idx_a1
  unfold arsV
  simp only
  go_enter Tryz.func151, Tryz.ntmps151
  go_wp2_with fail
  go_loopw [4, 5, 9] (fun c n i wr => Hid (Below w.heap.size w wr) ∧ ((i = .int .i64 0 ∧ c = .int .i64 0 ∧ n = .int .i64 0) ∨ (i = .int .i64 1 ∧ c = .int .i64 0 ∧ n = .int .i64 (cur1 ⟨g0, w0, d0, l0⟩ : Int)) ∨ (i = .int .i64 2 ∧ c = .int .i64 ((cur2 ⟨g0, w0, d0, l0⟩ ⟨g1, w1, d1, l1⟩).1 : Int) ∧ n = .int .i64 ((cur2 ⟨g0, w0, d0, l0⟩ ⟨g1, w1, d1, l1⟩).2 : Int)))) (fun _ _ i _ => 2 - (intOf i).toNat)
  case atStart => exact ⟨HB0.out _, .inl ⟨rfl, rfl, rfl⟩⟩
  case round =>
    obtain ⟨HB, ⟨rfl, rfl, rfl⟩ | ⟨rfl, rfl, rfl⟩ | ⟨rfl, rfl, rfl⟩⟩ := hrel
    · have HA : Hid (∀ ob : Obj, Below w.heap.size w (wr.alloc ob)) := fun ob => HB.out.alloc HB.out.size ob
      cases w0
      · go_wp2_with fail
        exact ⟨⟨HA.out _, .inr (.inl ⟨rfl, rfl, rfl⟩)⟩, by simp [intOf]⟩
      · by_cases hg : (0 : Int) < (g0 : Int)
        · have HE : Hid (cur1 ⟨g0, true, d0, l0⟩ = g0) := if_pos rfl
          go_wp2_with fail
          go_quiet (fail)
          go_wp2_with fail
          exact ⟨⟨below_drewN (HA.out _) _, .inr (.inl ⟨rfl, rfl, by rw [HE.out]⟩)⟩, by simp [intOf]⟩
        · have h0 : g0 = 0 := by omega
          have HE : Hid (cur1 ⟨g0, true, d0, l0⟩ = 0) := by unfold Hid; rw [h0]; rfl
          clear h0
          go_wp2_with fail
          exact ⟨⟨HA.out _, .inr (.inl ⟨rfl, rfl, by rw [HE.out]; rfl⟩)⟩, by simp [intOf]⟩
    · have HA : Hid (∀ ob : Obj, Below w.heap.size w (wr.alloc ob)) := fun ob => HB.out.alloc HB.out.size ob
      cases w1
      · have HE : Hid (cur2 ⟨g0, w0, d0, l0⟩ ⟨g1, false, d1, l1⟩ = (0, cur1 ⟨g0, w0, d0, l0⟩)) := if_neg (fun q => by cases q.1)
        generalize cur1 ⟨g0, w0, d0, l0⟩ = c1 at *
        go_wp2_with fail
        exact ⟨⟨HA.out _, .inr (.inr ⟨rfl, by rw [HE.out]; rfl, by rw [HE.out]⟩)⟩, by simp [intOf]⟩
      · by_cases hg : cur1 ⟨g0, w0, d0, l0⟩ < g1
        · have HE : Hid (cur2 ⟨g0, w0, d0, l0⟩ ⟨g1, true, d1, l1⟩ = (1, g1)) := if_pos ⟨rfl, hg⟩
          generalize cur1 ⟨g0, w0, d0, l0⟩ = c1 at *
          have hg' : (c1 : Int) < (g1 : Int) := by omega
          go_wp2_with fail
          go_quiet (fail)
          go_wp2_with fail
          exact ⟨⟨below_drewN (HA.out _) _, .inr (.inr ⟨rfl, by rw [HE.out]; rfl, by rw [HE.out]⟩)⟩, by simp [intOf]⟩
        · have HE : Hid (cur2 ⟨g0, w0, d0, l0⟩ ⟨g1, true, d1, l1⟩ = (0, cur1 ⟨g0, w0, d0, l0⟩)) := if_neg (fun q => hg q.2)
          generalize cur1 ⟨g0, w0, d0, l0⟩ = c1 at *
          have hg' : ¬ (c1 : Int) < (g1 : Int) := by omega
          go_wp2_with fail
          exact ⟨⟨HA.out _, .inr (.inr ⟨rfl, by rw [HE.out]; rfl, by rw [HE.out]⟩)⟩, by simp [intOf]⟩
    · go_wp2_with fail
      go_ret2
      exact ⟨rfl, HB.out⟩
end Go.Proofs.YtmmflekajbeamaaGreatDoor

namespace Go.Proofs.YtmmflekajbeamaaGreatDoor
open Go.RowKit Go.Maps Go.WideMaps

structure AOK (a : ArN) : Prop where
  gen : a.gen ≤ 4294967295
  wh : a.whole = true → 0 < a.gen
  sh : ∀ x ∈ a.list, blkB (bya x.1) = true ∧ x.2.length ≤ 200
  few : a.list.length ≤ a.good
theorem AOK.zero : AOK ar0 := ⟨by decide, fun h => (by cases h), fun x h => (by cases h), Nat.le_refl _⟩
theorem AOK.step {a a' : ArN} {k : Nat} {p : List UInt8} (h : AOK a) (hp : p.length ≤ 200) (e : arT a k p = some a') : AOK a' := by
  have hf := arT_good e
  unfold arT at e
  split at e
  · split at e
    · cases e
      exact ⟨by have := beN_lt (bya p) 0 4; simp only; omega, fun _ => hf.2.1, h.sh, by have := h.few; simp only; omega⟩
    · cases e
  · split at e
    · split at e
      · rename_i hc
        cases e
        refine ⟨h.gen, h.wh, fun x hx => ?_, ?_⟩
        · rcases List.mem_append.1 hx with q | q
          · exact h.sh x q
          · rw [List.mem_singleton] at q
            rw [q]
            exact ⟨hc.2.2, by show (p.drop _).length ≤ 200; rw [List.length_drop]; omega⟩
        · have := h.few; simp only [List.length_append, List.length_singleton]; omega
      · cases e
    · split at e
      · split at e
        · cases e
          exact ⟨h.gen, fun _ => hf.2.1, h.sh, by have := h.few; simp only; omega⟩
        · cases e
      · cases e
theorem AOK.scn : ∀ (f : Nat) (a : ArN) (l : List UInt8), AOK a → AOK (scn f a l) ∧ (scn f a l).good ≤ a.good + l.length
  | 0, a, l, h => ⟨h, Nat.le_add_right _ _⟩
  | f + 1, a, l, h => by
    rw [Go.Proofs.YtmmflekajbeamaaGreatDoor.scn]
    cases hf : frst l with
    | none => exact ⟨h, Nat.le_add_right _ _⟩
    | some kp =>
      obtain ⟨k, p⟩ := kp
      simp only
      cases ht : arT a k p with
      | none => exact ⟨h, Nat.le_add_right _ _⟩
      | some a' =>
        simp only
        obtain ⟨_, _, hp, hl, _⟩ := frst_some hf
        obtain ⟨h1, h2⟩ := AOK.scn f a' (l.drop (p.length + 8)) (h.step hp ht)
        refine ⟨h1, ?_⟩
        have := (arT_good ht).1
        rw [List.length_drop] at h2
        omega
theorem scan_ok (l : List UInt8) : AOK (scan l) ∧ (scan l).good ≤ l.length := by
  have := AOK.scn (l.length + 1) ar0 l AOK.zero
  simpa [scan, ar0] using this
theorem scan_few (l : List UInt8) : (scan l).list.length ≤ l.length := Nat.le_trans (scan_ok l).1.few (scan_ok l).2
theorem cur2_cases (a b : ArN) : cur2 a b = (1, b.gen) ∨ cur2 a b = (0, cur1 a) := by
  unfold cur2
  split
  · exact .inl rfl
  · exact .inr rfl
/-- The engine with an area that counts: which, what it tells, how many bytes it has. -/
def curE (g : EgN) (c : Nat) (A : ArN) (n : Nat) : EgN := { g with ar := c, gn := A.gen, sz := n, b := upd g.b 0 (bookL A.list) }
def findE {α : Type} (o : Dev α) (g : EgN) (d : α) (t0 t1 : List UInt8) : Int × EgN × α :=
  if (cur2 (scan t0) (scan t1)).2 = 0 then anewE o { g with ar := 1 } d 0
  else if (cur2 (scan t0) (scan t1)).1 = 0 then
    (if (scan t0).good < t0.length then anewE o (curE g 0 (scan t0) t0.length) d 1 else (0, curE g 0 (scan t0) t0.length, d))
  else (if (scan t1).good < t1.length then anewE o (curE g 1 (scan t1) t1.length) d 0 else (0, curE g 1 (scan t1) t1.length, d))
def openE {α : Type} (o : Dev α) (g : EgN) (d : α) : Int × EgN × α :=
  if (readE o g d).1 = 0 then findE o (readE o g d).2.1 (readE o g d).2.2.1 (readE o g d).2.2.2.1 (readE o g d).2.2.2.2 else ((readE o g d).1, (readE o g d).2.1, (readE o g d).2.2.1)
theorem curE_ok {g : EgN} (h : EgOK g) {c : Nat} (hc : c ≤ 1) {A : ArN} (hA : AOK A) (hl : A.list.length ≤ 1500) (n : Nat) : EgOK (curE g c A n) := by
  refine ⟨hc, hA.gen, fun i hi => ?_, fun i hi k hk => ?_⟩
  · by_cases i0 : i = 0
    · subst i0
      show (upd g.b 0 (bookL A.list) 0).length ≤ _
      rw [upd_at]
      have := bookL_len A.list
      omega
    · show (upd g.b 0 (bookL A.list) i).length ≤ _
      rw [upd_ne _ _ _ _ i0]
      exact h.few i hi
  · by_cases i0 : i = 0
    · subst i0
      have hk' : k ∈ upd g.b 0 (bookL A.list) 0 := hk
      rw [upd_at] at hk'
      refine foldB_plan (P := fun p => p.length ≤ 1000000) _ [] (fun _ h => by cases h) (fun x hx => ?_) k hk'
      have := (hA.sh x hx).2
      omega
    · have hk' : k ∈ upd g.b 0 (bookL A.list) i := hk
      rw [upd_ne _ _ _ _ i0] at hk'
      exact h.sh i hi k hk'
theorem blk_sh {t : List UInt8} (h : blkB (bya t) = true) : t.length ≤ 1000000 := by
  have := ((blkB_iff _).1 h).2.1
  rw [bya_size] at this
  omega
/-- The texts that were read are no longer than an area. -/
theorem sync_b (d : DvN) (i : Int) : (dSync d i).2.b = d.b := by
  unfold dSync
  split
  · rfl
  · split <;> rfl
theorem read_b (d : DvN) (i : Int) : (dRead d i).2.2.b = d.b := by
  unfold dRead
  split
  · rfl
  · split <;> rfl
theorem read_len {d : DvN} (h : ∀ i, i < 2 → (d.b i).length ≤ 1500) (i : Int) : (dRead d i).1.length ≤ 1500 := by
  unfold dRead
  split
  · exact Nat.zero_le _
  · split
    · exact Nat.zero_le _
    · exact h _ (by omega)
theorem readE_len {g : EgN} {d : DvN} (h : ∀ i, i < 2 → (d.b i).length ≤ 1500) : (readE dOps g d).2.2.2.1.length ≤ 1500 ∧ (readE dOps g d).2.2.2.2.length ≤ 1500 := by
  rw [readE_d]
  have h1 : ∀ i, i < 2 → ((dSync (dSync d 0).2 1).2.b i).length ≤ 1500 := by rw [sync_b, sync_b]; exact h
  have h2 : ∀ i, i < 2 → ((dRead (dSync (dSync d 0).2 1).2 0).2.2.b i).length ≤ 1500 := by rw [read_b]; exact h1
  repeat' split
  all_goals first | exact ⟨read_len h1 _, read_len h2 _⟩ | exact ⟨Nat.zero_le _, Nat.zero_le _⟩
theorem readE_ok {g : EgN} {d : DvN} (h : (readE dOps g d).1 = 0) : (readE dOps g d).2.1 = g := by
  rw [readE_d] at h ⊢
  revert h
  repeat' split
  all_goals first | (intro _; rfl) | (intro h; cases h)
end Go.Proofs.YtmmflekajbeamaaGreatDoor
