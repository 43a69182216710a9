/-
  Faithful: Persist or Compact of the bench (laid).
  Faithful: the device crashes, and what it holds is copied to a new one (moves).
  The calls Sum, Seal, Scan of the package; the law's seals and scans.
  Faithful: one step of the bench (step), kind by kind.
  Faithful: one step of the bench, of the kinds that call the device.
  Faithful: one step of the bench: a frame is added; every step.
  Calls of a hand, the program's and then the document's: Persist, Compact, Run, State, Counts.
  The law's worked: calls of a hand.
  The law's worked: State, Counts.
  A start over a device that no trouble waits for, with short areas, answers OK.
  Faithful: a new bench (bench).
-/
import Derived.Test.YtmmflekajbeamabGreatDoorK30
import Derived.Test.YtmmflekajbeamabGreatDoorK29
import Derived.Test.YtmmflekajbeamabGreatDoorK08
import Derived.Test.YtmmflekajbeamabGreatDoorK16
import Derived.Test.YtmmflekajbeamabGreatDoorK03
import Derived.Test.YtmmflekajbeamabGreatDoorK15
import Derived.Test.YtmmflekajbeamabGreatDoorK22
namespace Go.Proofs.YtmmflekajbeamabGreatDoor
open Go.RowKit Go.Maps Go.WideMaps

/-- What a Persist (a Compact) of the bench's engine comes to. -/
def ldB (b : Bn) (g : EgN) (c : Bool) : Int × EgN × DvN := if overE g b.d.wk = true then (17, g, b.d) else if c = true then anewE dOps g b.d (1 - g.ar) else persE dOps g b.d
theorem ldB_ok {b : Bn} {g : EgN} {k : Nat} (hd : DvOK b.d) (hg : GOK g k) (c : Bool) : DvOK (ldB b g c).2.2 ∧ (ldB b g c).2.2.wk = b.d.wk ∧ (ldB b g c).2.1.z = g.z ∧ GOK (ldB b g c).2.1 k ∧ ((ldB b g c).1 = 17 ∨ isCd (ldB b g c).1) ∧ ((ldB b g c).1 = 0 → (ldB b g c).2.1.b 1 = []) := by
  unfold ldB
  split
  · exact ⟨hd, rfl, rfl, hg, .inl rfl, fun h => by cases h⟩
  · split
    · exact ⟨anew_clo clo_ok _ _ _ hd, anew_clo (clo_wk b.d.wk) _ _ _ rfl, anewE_z _ _ _ _, hg.anew _ (by omega), .inr (anew_code _ _ _ _), anew_wait _ _ _ _⟩
    · exact ⟨pers_clo clo_ok _ _ hd, pers_clo (clo_wk b.d.wk) _ _ rfl, persE_z _ _ _, hg.pers _, .inr (pers_code _ _ _), pers_wait _ _ _⟩
theorem persist_call {N B : Nat} {b : Bn} {e : En} {m k : Nat} {w : World} (h : BnAt N B b (some e) m k w) (ht : Tab w) (hk : k ≤ 99999900000) :
    Calls Tryz.prog 16 #[.pointer (some ⟨e.X, 0, none⟩)] w (EPost e.E b.D e.m e.v b.vs w (ldB b e.g false).1 (ldB b e.g false).2.1 (ldB b e.g false).2.2) := by
  have hE := h.2.2 e rfl
  refine cPersist_of e.X e.E w hE.x _ (fun e' w' q => ⟨_, q.1⟩) ?_
  unfold ldB
  by_cases ho : overE e.g b.d.wk = true
  · rw [if_pos ho]
    exact ePersist_over e.E b.D e.g b.d e.m e.v b.vs w h.ed ho
  · rw [if_neg ho, if_neg (by decide)]
    exact ePersist_any e.E b.D e.g b.d e.m e.v b.vs w h.ed ht (hE.ok.eg (by omega)) hE.ok.sz (by simpa using ho)
theorem compact_call {N B : Nat} {b : Bn} {e : En} {m k : Nat} {w : World} (h : BnAt N B b (some e) m k w) (ht : Tab w) (hk : k ≤ 99999900000) :
    Calls Tryz.prog 45 #[.pointer (some ⟨e.X, 0, none⟩)] w (EPost e.E b.D e.m e.v b.vs w (ldB b e.g true).1 (ldB b e.g true).2.1 (ldB b e.g true).2.2) := by
  have hE := h.2.2 e rfl
  refine cCompact_of e.X e.E w hE.x _ (fun e' w' q => ⟨_, q.1⟩) ?_
  have := eCompact_any e.E b.D e.g b.d e.m e.v b.vs w h.ed ht (hE.ok.eg (by omega))
  unfold ldB
  rw [if_pos (rfl : true = true)]
  exact this
/-- What laid leaves. -/
def LdFin (N B : Nat) (b : Bn) (e : En) (R : Int × EgN × DvN) (m k : Nat) (w w' : World) : Prop := ∃ m1 v1 vs', BnAt N B { b with d := R.2.2, vs := vs' } (some { e with g := R.2.1, m := m1, v := v1 }) m k w' ∧ FrB B b (some e) { b with d := R.2.2, vs := vs' } (some { e with g := R.2.1, m := m1, v := v1 }) w w'
def LdPost (N B : Nat) (b : Bn) (e : En) (c : Bool) (m k : Nat) (w : World) (e' : Ending) (w' : World) : Prop :=
  e' = .returned (.tuple #[.bool (decide ((ldB b e.g c).1 = 0)), .bool true]) ∧ LdFin N B b e (ldB b e.g c) m k w w'
set_option maxRecDepth 100000 in
set_option maxHeartbeats 2000000 in
theorem laid_nil {N B : Nat} {b : Bn} {m k : Nat} {w : World} (h : BnAt N B b none m k w) (c : Bool) :
    Calls Tryz.prog 24 #[.pointer (some ⟨B, 0, none⟩), .bool c] w fun e' w' => e' = .returned (.tuple #[.bool false, .bool true]) ∧ w' = w := by
  have c1 := h.2.1 rfl
  clear h
  go_enter Tryz.func24, Tryz.ntmps24
  go_wp2_with fail
  go_ret2
  exact ⟨rfl, rfl⟩
/-- The end of laid, behind the engine's call. -/
theorem ld_end {N B : Nat} {b : Bn} {e : En} {c : Bool} {m k : Nat} {w w1 : World} (h : BnAt N B b (some e) m k w) (hN : N ≤ w.heap.size) {m1 v1 vs' : Nat → Value} (a : EdAt e.E b.D (ldB b e.g c).2.1 (ldB b e.g c).2.2 m1 v1 vs' w1) (f : EdFr e.E b.D e.m e.v b.vs m1 v1 vs' w w1) : BnAt N B { b with d := (ldB b e.g c).2.2, vs := vs' } (some { e with g := (ldB b e.g c).2.1, m := m1, v := v1 }) m k w1 ∧ FrB B b (some e) { b with d := (ldB b e.g c).2.2, vs := vs' } (some { e with g := (ldB b e.g c).2.1, m := m1, v := v1 }) w w1 := by
  have hE := h.2.2 e rfl
  obtain ⟨q1, q2, q3, q4, _⟩ := ldB_ok h.1.ok hE.ok c
  obtain ⟨r1, r2, _, r4⟩ := h.eng hN a f q1 (by rw [q2]; exact h.1.wk) q4
  exact ⟨⟨r1, fun q => (by cases q), fun e' q => by cases q; exact r2 (q3.trans hE.z)⟩, r4⟩
set_option maxRecDepth 100000 in
set_option maxHeartbeats 8000000 in
theorem laid_any {N B : Nat} {b : Bn} {e : En} {m k : Nat} {w : World} (h : BnAt N B b (some e) m k w) (hN : N ≤ w.heap.size) (ht : Tab w) (hk : k ≤ 99999900000) (c : Bool) :
    Calls Tryz.prog 24 #[.pointer (some ⟨B, 0, none⟩), .bool c] w (LdPost N B b e c m k w) := by
  have hE := h.2.2 e rfl
  have c1 := hE.c1
  have HP := hide (persist_call h ht hk)
  have HQ := hide (compact_call h ht hk)
  have HEnd := hide (fun (w1 : World) (m1 v1 vs' : Nat → Value) (a : EdAt e.E b.D (ldB b e.g c).2.1 (ldB b e.g c).2.2 m1 v1 vs' w1) (f : EdFr e.E b.D e.m e.v b.vs m1 v1 vs' w w1) => ld_end h hN a f)
  have HOk := hide (ldB_ok h.1.ok hE.ok c)
  have hcase : c = true ∨ c = false := by cases c <;> simp
  have HN := hide hN
  clear h hE ht hk hN
  unfold LdPost
  rcases hcase with rfl | rfl
  · generalize ldB b e.g true = L at *
    obtain ⟨n, g', d'⟩ := L
    simp only at HQ HEnd HOk ⊢
    go_enter Tryz.func24, Tryz.ntmps24
    go_wp2_with fail
    refine (unhide HQ).mono ?_
    rintro e' w1 ⟨rfl, m1, v1, vs', a, f⟩
    obtain ⟨hn1, hb1⟩ := HEnd.out w1 m1 v1 vs' a f
    have k1 := (hn1.2.2 _ rfl).c1
    have HC := hide (cCounts_any e.X e.E b.D g' m1 v1 w1 (hn1.2.2 _ rfl).x (hn1.2.2 _ rfl).eg)
    have HN1 := hide hn1; have HB1 := hide hb1
    have hz1 := hb1.chg.size
    obtain ⟨_, _, _, _, hcd, hwt⟩ := HOk.out
    clear a f hn1 hb1 HP HQ HEnd HOk c1
    have hcd' : n = 0 ∨ n = 14 ∨ n = 15 ∨ n = 16 ∨ n = 17 := by
      rcases hcd with q | q | q | q | q
      · exact .inr (.inr (.inr (.inr q)))
      · exact .inl q
      · exact .inr (.inl q)
      · exact .inr (.inr (.inl q))
      · exact .inr (.inr (.inr (.inl q)))
    clear hcd
    rcases hcd' with rfl | rfl | rfl | rfl | rfl
    · have hw0 : (g'.b 1).length = 0 := by rw [hwt rfl]; rfl
      rw [hw0] at HC
      clear hwt hw0
      generalize g'.c 0 = C0 at *
      generalize g'.c 1 = C1 at *
      generalize g'.c 2 = C2 at *
      generalize g'.c 3 = C3 at *
      go_wp2_with fail
      refine (unhide HC).mono ?_
      rintro e' w2 ⟨rfl, hb2⟩
      have HB2 := hide hb2
      have hz2 := hb2.size
      clear hb2 HC k1
      go_wp2_with fail
      go_quiet (fail)
      go_wp2_with fail
      go_ret2
      have hb : Below w1.heap.size w1 _ := below_drewN (HB2.out.alloc hz2 (.cells #[.int .i64 (C0 : Int), .int .i64 (C1 : Int), .int .i64 (C2 : Int), .int .i64 (C3 : Int), .int .i64 0] 45)) nq
      exact ⟨rfl, m1, v1, vs', HN1.out.up (by have := HN.out; omega) hb, HB1.out.up hb⟩
    all_goals
      clear hwt HC
      go_wp2_with fail
      go_ret2
      exact ⟨rfl, m1, v1, vs', HN1.out, HB1.out⟩
  · generalize ldB b e.g false = L at *
    obtain ⟨n, g', d'⟩ := L
    simp only at HP HEnd HOk ⊢
    go_enter Tryz.func24, Tryz.ntmps24
    go_wp2_with fail
    refine (unhide HP).mono ?_
    rintro e' w1 ⟨rfl, m1, v1, vs', a, f⟩
    obtain ⟨hn1, hb1⟩ := HEnd.out w1 m1 v1 vs' a f
    have k1 := (hn1.2.2 _ rfl).c1
    have HC := hide (cCounts_any e.X e.E b.D g' m1 v1 w1 (hn1.2.2 _ rfl).x (hn1.2.2 _ rfl).eg)
    have HN1 := hide hn1; have HB1 := hide hb1
    have hz1 := hb1.chg.size
    obtain ⟨_, _, _, _, hcd, hwt⟩ := HOk.out
    clear a f hn1 hb1 HP HQ HEnd HOk c1
    have hcd' : n = 0 ∨ n = 14 ∨ n = 15 ∨ n = 16 ∨ n = 17 := by
      rcases hcd with q | q | q | q | q
      · exact .inr (.inr (.inr (.inr q)))
      · exact .inl q
      · exact .inr (.inl q)
      · exact .inr (.inr (.inl q))
      · exact .inr (.inr (.inr (.inl q)))
    clear hcd
    rcases hcd' with rfl | rfl | rfl | rfl | rfl
    · have hw0 : (g'.b 1).length = 0 := by rw [hwt rfl]; rfl
      rw [hw0] at HC
      clear hwt hw0
      generalize g'.c 0 = C0 at *
      generalize g'.c 1 = C1 at *
      generalize g'.c 2 = C2 at *
      generalize g'.c 3 = C3 at *
      go_wp2_with fail
      refine (unhide HC).mono ?_
      rintro e' w2 ⟨rfl, hb2⟩
      have HB2 := hide hb2
      have hz2 := hb2.size
      clear hb2 HC k1
      go_wp2_with fail
      go_quiet (fail)
      go_wp2_with fail
      go_ret2
      have hb : Below w1.heap.size w1 _ := below_drewN (HB2.out.alloc hz2 (.cells #[.int .i64 (C0 : Int), .int .i64 (C1 : Int), .int .i64 (C2 : Int), .int .i64 (C3 : Int), .int .i64 0] 45)) nq
      exact ⟨rfl, m1, v1, vs', HN1.out.up (by have := HN.out; omega) hb, HB1.out.up hb⟩
    all_goals
      clear hwt HC
      go_wp2_with fail
      go_ret2
      exact ⟨rfl, m1, v1, vs', HN1.out, HB1.out⟩
end Go.Proofs.YtmmflekajbeamabGreatDoor

namespace Go.Proofs.YtmmflekajbeamabGreatDoor
open Go.RowKit Go.Maps Go.WideMaps

theorem calm_tick {d : DvN} (h : d.tr = 0) : d.tick = d := by
  obtain ⟨b, n, tr, wk⟩ := d
  have h' : tr = 0 := h
  subst h'
  rfl
theorem read_calm {d : DvN} (h : d.tr = 0) {i : Nat} (hi : i < 2) : dRead d (i : Int) = (d.b i, 0, d) := by
  unfold dRead
  rw [if_neg (by omega), if_neg (by omega), calm_tick h]
  rfl
/-- A device with the bytes s laid down in the area i of another. -/
def cpB (d : DvN) (i : Nat) (s : List UInt8) : DvN := { d with b := upd d.b i (d.b i ++ s), n := upd d.n i (d.b i ++ s).length }
theorem add_calm {d : DvN} (h : d.tr = 0) {i : Nat} (hi : i < 2) {s : List UInt8} (hs : (d.b i).length + s.length ≤ 1500) : dAdd d (i : Int) s = (0, { d with b := upd d.b i (d.b i ++ s) }) := by
  unfold dAdd
  rw [if_neg (by omega), if_neg (by omega), if_neg (by rw [Int.toNat_natCast]; omega), calm_tick h]
  rfl
theorem sync_calm {d : DvN} (h : d.tr = 0) {i : Nat} (hi : i < 2) : dSync d (i : Int) = (0, { d with n := upd d.n i (d.b i).length }) := by
  unfold dSync
  rw [if_neg (by omega), if_neg (by omega), calm_tick h]
  rfl
theorem cp_calm {d : DvN} (h : d.tr = 0) {i : Nat} (hi : i < 2) {s : List UInt8} (hs : (d.b i).length + s.length ≤ 1500) : (dSync (dAdd d (i : Int) s).2 (i : Int)) = (0, cpB d i s) := by
  rw [add_calm h hi hs]
  show dSync { d with b := upd d.b i (d.b i ++ s) } (i : Int) = _
  rw [sync_calm (d := { d with b := upd d.b i (d.b i ++ s) }) h hi]
  show ((0 : Int), ({ d with b := upd d.b i (d.b i ++ s), n := upd d.n i (upd d.b i (d.b i ++ s) i).length } : DvN)) = _
  rw [upd_at]
  rfl
/-- The new device behind i areas. -/
def mvI (d : DvN) : Nat → DvN
  | 0 => dv0
  | i + 1 => cpB (mvI d i) i (d.b i)
def mvD (d : DvN) : DvN := mvI d 2
theorem mvI_tr (d : DvN) : ∀ i, (mvI d i).tr = 0
  | 0 => rfl
  | i + 1 => mvI_tr d i
theorem mvI_wk (d : DvN) : ∀ i, (mvI d i).wk = 0
  | 0 => rfl
  | i + 1 => mvI_wk d i
theorem mvI_nil (d : DvN) : ∀ i j, i ≤ j → (mvI d i).b j = []
  | 0, j, _ => rfl
  | i + 1, j, h => by
    show upd (mvI d i).b i _ j = []
    rw [upd_ne _ _ _ _ (by omega)]
    exact mvI_nil d i j (by omega)
theorem mvI_ok (d : DvN) : ∀ i, DvOK (mvI d i)
  | 0 => fun _ _ => Nat.le_refl _
  | i + 1 => fun j hj => by
    show upd (mvI d i).n i ((mvI d i).b i ++ d.b i).length j ≤ (upd (mvI d i).b i ((mvI d i).b i ++ d.b i) j).length
    unfold upd
    split
    · exact Nat.le_refl _
    · exact mvI_ok d i j hj
theorem crN_ok (d : DvN) (keep : Int) (j : List UInt8) (h : DvOK d) : ∀ k, DvOK (crN d keep j k)
  | 0 => h
  | k + 1 => fun i hi => by
    have ih := crN_ok d keep j h k i hi
    unfold crN
    show upd (crN d keep j k).n k _ i ≤ (upd (crN d keep j k).b k _ i).length
    unfold upd
    split
    · exact Nat.le_refl _
    · exact ih
theorem crash_ok (d : DvN) (keep : Int) (j : List UInt8) (h : DvOK d) {m : Nat} (hw : 0 ≤ d.wk ∧ d.wk ≤ (m : Int)) (hm : m ≤ 1000000000000000) : DvOK (dCrash d keep j) ∧ (dCrash d keep j).wk = d.wk + 1 := by
  refine ⟨crN_ok d keep j h 2, ?_⟩
  show wrap64 (d.wk + 1) = d.wk + 1
  unfold wrap64
  omega
/-- Two devices: the bench's, and the new one. -/
structure MvAt (N B : Nat) (b : Bn) (X2 D2 : Nat) (d2 : DvN) (vs2 : Nat → Value) (m : Nat) (w : World) : Prop where
  bd : BdAt N B b m w
  x : XAt X2 D2 w
  dv : DvAt D2 d2 vs2 w
  fr : ∀ x, x = X2 ∨ dHas D2 vs2 x → ¬ b.has x ∧ x ≠ B ∧ N ≤ x
  nX : ¬ dHas D2 vs2 X2
theorem MvAt.xlt {N B : Nat} {b : Bn} {X2 D2 : Nat} {d2 : DvN} {vs2 : Nat → Value} {m : Nat} {w : World} (h : MvAt N B b X2 D2 d2 vs2 m w) : X2 < w.heap.size := block_lt_of_cell h.x
theorem dfr_vo {D : Nat} {vs vs' : Nat → Value} {w w' : World} (hf : DFr D vs vs' w w') : ∀ x, dHas D vs' x → dHas D vs x ∨ w.heap.size ≤ x := fun x q => by
  rcases q with q | ⟨i, hi, q⟩
  · exact .inl (.inl q)
  · exact (hf.own i hi x q).imp (fun c => .inr ⟨i, hi, c⟩) id
/-- A call of the old device. -/
theorem MvAt.old {N B : Nat} {b : Bn} {X2 D2 : Nat} {d2 d' : DvN} {vs2 vs' : Nat → Value} {m : Nat} {w w' : World} (h : MvAt N B b X2 D2 d2 vs2 m w) (hN : N ≤ w.heap.size) (hd : DvAt b.D d' vs' w') (hf : DFr b.D b.vs vs' w w') (ok : DvOK d') (wk : 0 ≤ d'.wk ∧ d'.wk ≤ (m : Int)) : MvAt N B { b with d := d', vs := vs' } X2 D2 d2 vs2 m w' ∧ Below N w w' := by
  have vo := dfr_vo hf
  have hB := hf.chg.other B h.bd.lt (fun q => h.bd.nB (.inr q))
  refine ⟨⟨h.bd.turn hf.below.size hN hB (hf.chg.other _ h.bd.xlt h.bd.nX) hd ok wk vo, (World.cell?_of_block (hf.chg.other X2 h.xlt (fun q => (h.fr X2 (.inl rfl)).1 (.inr q)))).trans h.x, h.dv.kept hf.below.size (fun x q => hf.chg.other x (h.dv.has q).2 (fun c => (h.fr x (.inr q)).1 (.inr c))), fun x q => ⟨fun c => ?_, (h.fr x q).2⟩, h.nX⟩, hf.chg.below hN (fun x q => h.bd.ge.2 x (.inr q))⟩
  rcases c with c | c
  · exact (h.fr x q).1 (.inl c)
  · rcases vo x c with e | e
    · exact (h.fr x q).1 (.inr e)
    · rcases q with q | q
      · have := h.xlt; omega
      · have := (h.dv.has q).2; omega
/-- A call of the new device. -/
theorem MvAt.new {N B : Nat} {b : Bn} {X2 D2 : Nat} {d2 d' : DvN} {vs2 vs' : Nat → Value} {m : Nat} {w w' : World} (h : MvAt N B b X2 D2 d2 vs2 m w) (hN : N ≤ w.heap.size) (hd : DvAt D2 d' vs' w') (hf : DFr D2 vs2 vs' w w') : MvAt N B b X2 D2 d' vs' m w' ∧ Below N w w' := by
  have vo := dfr_vo hf
  have oB := hf.chg.other B h.bd.lt (fun q => (h.fr B (.inr q)).2.1 rfl)
  have oX := hf.chg.other b.X h.bd.xlt (fun q => (h.fr _ (.inr q)).1 (.inl rfl))
  refine ⟨⟨h.bd.turn hf.below.size hN oB oX (h.bd.dv.kept hf.below.size (fun x q => hf.chg.other x (h.bd.dv.has q).2 (fun c => (h.fr x (.inr c)).1 (.inr q)))) h.bd.ok h.bd.wk (fun _ q => .inl q), (World.cell?_of_block (hf.chg.other X2 h.xlt h.nX)).trans h.x, hd, fun x q => ?_, fun q => ?_⟩, hf.chg.below hN (fun x q => (h.fr x (.inr q)).2.2)⟩
  · rcases q with q | q
    · exact h.fr x (.inl q)
    · rcases vo x q with e | e
      · exact h.fr x (.inr e)
      · refine ⟨fun c => ?_, by have := h.bd.lt; omega, by omega⟩
        have := h.bd.has c
        omega
  · rcases vo _ q with e | e
    · exact h.nX e
    · have := h.xlt; omega
/-- The new device in the bench. -/
theorem MvAt.put {N B : Nat} {b : Bn} {X2 D2 : Nat} {d2 : DvN} {vs2 : Nat → Value} {m : Nat} {w : World} (h : MvAt N B b X2 D2 d2 vs2 m w) (ok : DvOK d2) (wk : 0 ≤ d2.wk ∧ d2.wk ≤ (m : Int)) : BdAt N B { b with X := X2, D := D2, d := d2, vs := vs2 } m (w.setCell ⟨B, 0, none⟩ (.pointer (some ⟨X2, 0, none⟩))) := by
  have hb := h.bd
  obtain ⟨v, q⟩ := hb.c1
  have hne : ∀ x, x = X2 ∨ dHas D2 vs2 x → x ≠ B := fun x q => (h.fr x q).2.1
  refine ⟨by rw [set_size]; exact hb.lt, fun k => by rw [World.frozen?_setCell]; exact hb.fz k, World.cell?_setCell_same _ _ _ hb.c0, ⟨v, (cell_off (by decide)).trans q⟩, fun j x e => (cell_off (by omega)).trans (hb.st j x e), (cell_off (by decide)).trans hb.mu, (World.cell?_of_block (set_other (hne _ (.inl rfl)))).trans h.x, h.dv.kept (by rw [set_size]; exact Nat.le_refl _) (fun x q => set_other (hne x (.inr q))), ok, wk, hb.z, ⟨hb.ge.1, fun x q => (h.fr x q).2.2⟩, fun q => hne B q rfl, h.nX⟩
/-- What the copying leaves so far. -/
structure Mi (B : Nat) (b : Bn) (vs : Nat → Value) (X2 D2 : Nat) (vs2 : Nat → Value) (w wr : World) : Prop where
  chg : Chg (ownB B b none) w wr
  o1 : ∀ x, dHas b.D vs x → ownB B b none x ∨ w.heap.size ≤ x
  o2 : ∀ x, x = X2 ∨ dHas D2 vs2 x → w.heap.size ≤ x
theorem Mi.old {B : Nat} {b : Bn} {vs vs' : Nat → Value} {X2 D2 : Nat} {vs2 : Nat → Value} {w wr w' : World} (h : Mi B b vs X2 D2 vs2 w wr) (hf : DFr b.D vs vs' wr w') : Mi B b vs' X2 D2 vs2 w w' :=
  ⟨h.chg.trans (F1 := dHas b.D vs) h.o1 hf.chg, fun x q => (dfr_vo hf x q).elim (h.o1 x) (fun c => .inr (Nat.le_trans h.chg.size c)), h.o2⟩
theorem Mi.new {B : Nat} {b : Bn} {vs : Nat → Value} {X2 D2 : Nat} {vs2 vs' : Nat → Value} {w wr w' : World} (h : Mi B b vs X2 D2 vs2 w wr) (hf : DFr D2 vs2 vs' wr w') : Mi B b vs X2 D2 vs' w w' :=
  ⟨h.chg.trans (F1 := dHas D2 vs2) (fun x q => .inr (h.o2 x (.inr q))) hf.chg, h.o1, fun x q => q.elim (fun c => h.o2 x (.inl c)) (fun c => (dfr_vo hf x c).elim (fun e => h.o2 x (.inr e)) (Nat.le_trans h.chg.size))⟩
/-- What moves leaves. -/
def MvFin (N B : Nat) (b : Bn) (dc : DvN) (m : Nat) (w w' : World) : Prop := ∃ X2 D2 vs2, BdAt N B { b with X := X2, D := D2, d := mvD dc, vs := vs2 } m w' ∧ FrB B b none { b with X := X2, D := D2, d := mvD dc, vs := vs2 } none w w'
def MvPost (N B : Nat) (b : Bn) (keep : Int) (junk : ByteArray) (m : Nat) (w : World) (e' : Ending) (w' : World) : Prop :=
  e' = .returned (.bool true) ∧ MvFin N B b (dCrash b.d keep (lst junk)) m w w'
set_option maxRecDepth 100000 in
set_option maxHeartbeats 8000000 in
theorem moves_any {N B : Nat} {b : Bn} {m : Nat} {w : World} (h : BdAt N B b m w) (hN : N ≤ w.heap.size) (keep : Int) (junk : ByteArray) (hm : m ≤ 1000000000000000) :
    Calls Tryz.prog 10 #[.pointer (some ⟨B, 0, none⟩), .int .i64 keep, .string junk] w (MvPost N B b keep junk m w) := by
  have c0 := h.c0
  have HC := hide (cCrash_any b.X b.D b.d b.vs keep junk w h.x h.dv h.ok)
  have hok1 : DvOK (dCrash b.d keep (lst junk)) ∧ (dCrash b.d keep (lst junk)).wk = b.d.wk + 1 := crash_ok b.d keep (lst junk) h.ok h.wk hm
  have HD1 : Hid (∀ w' vs', DvAt b.D (dCrash b.d keep (lst junk)) vs' w' → DFr b.D b.vs vs' w w' → BdAt N B { b with d := dCrash b.d keep (lst junk), vs := vs' } (m + 1) w' ∧ Below N w w') := fun w' vs' a f => by
    have hB := f.chg.other B h.lt (fun q => h.nB (.inr q))
    exact ⟨h.turn f.below.size hN hB (f.chg.other _ h.xlt h.nX) a hok1.1 (by rw [hok1.2]; have := h.wk; omega) (dfr_vo f), f.chg.below hN (fun x q => h.ge.2 x (.inr q))⟩
  have htr : (dCrash b.d keep (lst junk)).tr = 0 := rfl
  unfold MvPost
  have HM := hide (rfl : m = m)
  clear h hok1
  generalize dCrash b.d keep (lst junk) = dc at *
  have HTr := hide htr
  have HNn := hide hN
  clear htr
  go_enter Tryz.func10, Tryz.ntmps10
  go_wp2_with fail
  refine (unhide HC).mono ?_
  rintro e w1 ⟨rfl, vs1, hd1, hf1⟩
  obtain ⟨hb1, hl1⟩ := HD1.out w1 vs1 hd1 hf1
  have HB1 := hide hb1; have HL1 := hide hl1
  have hz1 := hl1.size
  have HMi1 : Hid (Chg (ownB B b none) w w1 ∧ ∀ x, dHas b.D vs1 x → ownB B b none x ∨ w.heap.size ≤ x) := ⟨hf1.chg.weak (fun _ q => .inl (.inr (.inl (.inr q)))), fun x q => (dfr_vo hf1 x q).imp (fun c => .inr (.inl (.inr c))) id⟩
  have HND := hide (newDevice_any w1)
  clear hd1 hf1 hb1 hl1 HC HD1 c0
  go_wp2_with fail
  refine (unhide HND).mono ?_
  rintro e w2 ⟨rfl, hd2, hx2, hs2, hb2⟩
  have hM : MvAt N B { b with d := dc, vs := vs1 } (w1.heap.size + 1) w1.heap.size dv0 nilV (m + 1) w2 := by
    have hN1 : N ≤ w1.heap.size := by omega
    have q := HB1.out
    refine ⟨q.up hN1 hb2, hx2, hd2, fun x c => ?_, fun c => ?_⟩
    · have hx : w1.heap.size ≤ x := by
        rcases c with c | c | ⟨i, _, c⟩
        · omega
        · omega
        · cases c
      exact ⟨fun e => by have := q.has e; omega, by have := q.lt; omega, by omega⟩
    · rcases c with c | ⟨i, _, c⟩
      · omega
      · cases c
  have hBe : Below N w w2 := HL1.out.trans (hb2.mono (by omega))
  have hMi : Mi B b vs1 (w1.heap.size + 1) w1.heap.size nilV w w2 := by
    refine ⟨HMi1.out.1.trans (F1 := fun _ => False) (fun x q => q.elim) (Chg.of_below hb2), HMi1.out.2, fun x q => ?_⟩
    rcases q with q | q | ⟨i, _, q⟩
    · omega
    · omega
    · cases q
  have HI0 : Hid (∃ vs vs2, MvAt N B { b with d := dc, vs := vs } (w1.heap.size + 1) w1.heap.size (mvI dc 0) vs2 (m + 1) w2 ∧ Below N w w2 ∧ Mi B b vs (w1.heap.size + 1) w1.heap.size vs2 w w2) := ⟨vs1, nilV, hM, hBe, hMi⟩
  clear hd2 hx2 hb2 hM hBe hMi HMi1 HND HB1
  go_upto_region 6 with fail
  go_loopw [8] (fun i wr => ∃ j : Nat, j ≤ 2 ∧ i = .int .i64 j ∧ Hid (∃ vs vs2, MvAt N B { b with d := dc, vs := vs } (w1.heap.size + 1) w1.heap.size (mvI dc j) vs2 (m + 1) wr ∧ Below N w wr ∧ Mi B b vs (w1.heap.size + 1) w1.heap.size vs2 w wr)) (fun i _ => 2 - (intOf i).toNat)
  case atStart => exact ⟨0, by decide, rfl, HI0.out⟩
  case round =>
    obtain ⟨j, hj, rfl, HI⟩ := hrel
    obtain ⟨vs, vs2, hM, hbw, hmi⟩ := HI.out
    have HMi := hide hmi
    clear hmi
    have c0 := hM.bd.c0
    by_cases hlt : j < 2
    · have hlt' : (j : Int) < 2 := by omega
      have hzw := hbw.size
      have hrd : dRead dc (j : Int) = (dc.b j, 0, dc) := read_calm HTr.out hlt
      have hlen : (dc.b j).length ≤ 1500 := hM.bd.dv.len j hlt
      have HC := hide (cRead_any b.X b.D dc vs (j : Int) wr hM.bd.x hM.bd.dv)
      rw [hrd] at HC
      simp only at HC
      have HM0 := hide hM; have HBw := hide hbw; have HLen := hide hlen
      clear hM hbw hrd hlen HI HI0
      go_wp2_with fail
      refine (unhide HC).mono ?_
      rintro e w3 ⟨rfl, vs3, hd3, hf3⟩
      obtain ⟨hM3, hb3⟩ := HM0.out.old (by have := HNn.out; omega) hd3 hf3 HM0.out.bd.ok HM0.out.bd.wk
      have hz3 := hb3.size
      have hl2 : ((mvI dc j).b j).length + (dc.b j).length ≤ 1500 := by rw [mvI_nil dc j j (Nat.le_refl _)]; have := HLen.out; simpa using this
      have had := add_calm (mvI_tr dc j) hlt hl2
      have hcp := cp_calm (mvI_tr dc j) hlt hl2
      have HC3 := hide (cAdd_any (w1.heap.size + 1) w1.heap.size (mvI dc j) vs2 (j : Int) (bya (dc.b j)) w3 hM3.x hM3.dv (by rw [bya_size]; have := HLen.out; omega))
      have HM3 := hide hM3; have HB3 := hide hb3
      have HMi3 := hide (HMi.out.old hf3)
      rw [lst_bya] at HC3
      clear hd3 hf3 hM3 hb3 HC HM0
      go_wp2_with fail
      refine (unhide HC3).mono ?_
      rintro e w4 ⟨rfl, vs4, hd4, hf4⟩
      obtain ⟨hM4, hb4⟩ := HM3.out.new (by have := HNn.out; omega) hd4 hf4
      have hz4 := hb4.size
      have HC4 := hide (cSync_any (w1.heap.size + 1) w1.heap.size (dAdd (mvI dc j) (j : Int) (dc.b j)).2 vs4 (j : Int) w4 hM4.x hM4.dv)
      rw [hcp] at HC4
      rw [had]
      simp only at HC4 ⊢
      have HM4 := hide hM4; have HB4 := hide hb4
      have HMi4 := hide (HMi3.out.new hf4)
      clear hd4 hf4 hM4 hb4 HC3 HM3 had hcp hl2
      go_wp2_with fail
      refine (unhide HC4).mono ?_
      rintro e w5 ⟨rfl, vs5, hd5, hf5⟩
      obtain ⟨hM5, hb5⟩ := HM4.out.new (by have := HNn.out; omega) hd5 hf5
      have HN : Hid (∃ vs vs2, MvAt N B { b with d := dc, vs := vs } (w1.heap.size + 1) w1.heap.size (mvI dc (j + 1)) vs2 (m + 1) w5 ∧ Below N w w5 ∧ Mi B b vs (w1.heap.size + 1) w1.heap.size vs2 w w5) := ⟨vs3, vs5, hM5, ((HBw.out.trans HB3.out).trans HB4.out).trans hb5, HMi4.out.new hf5⟩
      clear hd5 hf5 hM5 hb5 HC4 HM4 c0
      go_wp2_with fail
      exact ⟨⟨j + 1, by omega, by go_num, HN.out⟩, by simp [intOf]; omega⟩
    · have hlt' : ¬ (j : Int) < 2 := by omega
      obtain rfl : j = 2 := by omega
      have f0 := hM.bd.fz 0
      obtain ⟨W, hW⟩ : ∃ W, W = wr.setCell ⟨B, 0, none⟩ (.pointer (some ⟨w1.heap.size + 1, 0, none⟩)) := ⟨_, rfl⟩
      have hfin : BdAt N B { b with X := w1.heap.size + 1, D := w1.heap.size, d := mvD dc, vs := vs2 } (m + 1) W := by
        rw [hW]
        exact hM.put (mvI_ok dc 2) (by have := mvI_wk dc 2; rw [this]; omega)
      have HF : Hid (MvFin N B b dc m w W) := by
        refine ⟨_, _, _, ⟨hfin.lt, hfin.fz, hfin.c0, hfin.c1, hfin.st, hfin.mu, hfin.x, hfin.dv, hfin.ok, ?_, hfin.z, hfin.ge, hfin.nB, hfin.nX⟩, ?_⟩
        · have e : (mvD dc).wk = 0 := mvI_wk dc 2
          show 0 ≤ (mvD dc).wk ∧ (mvD dc).wk ≤ (m : Int)
          rw [e]
          omega
        · rw [hW]
          refine ⟨HMi.out.chg.trans (F1 := fun x => x = B) (fun _ q => .inl (.inl q)) (Chg.set wr B 0 _), fun x q => ?_⟩
          rcases q with q | q | ⟨_, q, _⟩
          · exact .inl (.inl q)
          · exact .inr (HMi.out.o2 x q)
          · cases q
      have HW := hide hW
      clear hM hbw hfin hW HI HI0
      go_upto_region 14 with fail
      rw [← HW.out]
      go_wp2_with fail
      go_ret
      exact ⟨rfl, HF.out⟩
end Go.Proofs.YtmmflekajbeamabGreatDoor

namespace Go.Proofs.YtmmflekajbeamabGreatDoor
open Go.RowKit

end Go.Proofs.YtmmflekajbeamabGreatDoor

namespace Go.Proofs.YtmmflekajbeamabGreatDoor
open Go.RowKit Go.Maps Go.WideMaps

/-- A step of a script. -/
def spC (kd a b : Int) (s : ByteArray) : Array Value := #[.int .i64 kd, .int .i64 a, .int .i64 b, .string s]
/-- The box of a step. -/
structure Sbx (N B : Nat) (b : Bn) (oe : Option En) (m k : Nat) (kd a b' : Int) (s : ByteArray) (w W : World) : Prop where
  bn : BnAt N B b oe m k W
  bel : Below w.heap.size w W
  c0 : W.cell? ⟨w.heap.size, 0, none⟩ = some (.int .i64 kd)
  c1 : W.cell? ⟨w.heap.size, 1, none⟩ = some (.int .i64 a)
  c2 : W.cell? ⟨w.heap.size, 2, none⟩ = some (.int .i64 b')
  c3 : W.cell? ⟨w.heap.size, 3, none⟩ = some (.string s)
theorem sbx_new {N B : Nat} {b : Bn} {oe : Option En} {m k : Nat} {w : World} (h : BnAt N B b oe m k w) (hN : N ≤ w.heap.size) (kd a b' : Int) (s : ByteArray) (W : World) (e : W = w.alloc (.cells (spC kd a b' s) 33)) : Sbx N B b oe m k kd a b' s w W := by
  have r : W.heap[w.heap.size]? = some (.cells (spC kd a b' s) 33 (0, 0)) := by rw [e, _root_.Go.heap_alloc_new]
  have hb : Below w.heap.size w W := by rw [e]; exact (Below.refl _ _).alloc (Nat.le_refl _) _
  exact ⟨h.up hN hb, hb, cell_row r 0, cell_row r 1, cell_row r 2, cell_row r 3⟩
/-- Bounds of a step. -/
structure SbOK (kd a b : Int) (s : ByteArray) : Prop where
  kd : -9223372036854775808 ≤ kd ∧ kd ≤ 9223372036854775807
  a : -9223372036854775808 ≤ a ∧ a ≤ 9223372036854775807
  b : -9223372036854775808 ≤ b ∧ b ≤ 9223372036854775807
  s : s.size ≤ 140737488351232
theorem pickI_ex (c n : Int) (hn : 0 < n) : ∃ j : Nat, pickI c n = (j : Int) ∧ (j : Int) < n := by
  have hb := pickI_bd c n hn
  exact ⟨(pickI c n).toNat, by omega, by omega⟩
end Go.Proofs.YtmmflekajbeamabGreatDoor

namespace Go.Proofs.YtmmflekajbeamabGreatDoor
open Go.RowKit Go.Maps Go.WideMaps

end Go.Proofs.YtmmflekajbeamabGreatDoor

namespace Go.Proofs.YtmmflekajbeamabGreatDoor
open Go.RowKit Go.Maps Go.WideMaps

end Go.Proofs.YtmmflekajbeamabGreatDoor

namespace Go.Proofs.YtmmflekajbeamabGreatDoor
open Go.RowKit Go.Maps Go.WideMaps

end Go.Proofs.YtmmflekajbeamabGreatDoor

namespace Go.Proofs.YtmmflekajbeamabGreatDoor
open Go.RowKit Go.Maps Go.WideMaps

end Go.Proofs.YtmmflekajbeamabGreatDoor

namespace Go.Proofs.YtmmflekajbeamabGreatDoor
open Go.RowKit Go.Maps Go.WideMaps

end Go.Proofs.YtmmflekajbeamabGreatDoor

namespace Go.Proofs.YtmmflekajbeamabGreatDoor

theorem scan_short {l : List UInt8} (h : l.length ≤ 11) : scan l = ar0 := by
  unfold scan
  rw [scn]
  cases hf : frst l with
  | none => rfl
  | some kp =>
    obtain ⟨k, p⟩ := kp
    simp only
    obtain ⟨_, _, _, hl, _⟩ := frst_some hf
    have : arT ar0 k p = none := by
      unfold arT
      rw [if_pos (show ar0.gen = 0 from rfl), if_neg (fun c => by have := c.2.1; omega)]
    rw [this]
theorem calm_sync {d : DvN} (h : d.tr = 0) {i : Int} (hi : ¬ (i < 0 ∨ 2 ≤ i)) : (dSync d i).1 = 0 ∧ (dSync d i).2.tr = 0 ∧ (dSync d i).2.b = d.b := by
  unfold dSync
  rw [if_neg hi, if_neg (by omega)]
  exact ⟨rfl, by show d.tr - 1 = 0; omega, rfl⟩
theorem calm_read {d : DvN} (h : d.tr = 0) {i : Int} (hi : ¬ (i < 0 ∨ 2 ≤ i)) : (dRead d i).2.1 = 0 ∧ (dRead d i).2.2.tr = 0 ∧ (dRead d i).2.2.b = d.b ∧ (dRead d i).1 = d.b i.toNat := by
  unfold dRead
  rw [if_neg hi, if_neg (by omega)]
  exact ⟨rfl, by show d.tr - 1 = 0; omega, rfl, rfl⟩
theorem calm_clear {d : DvN} (h : d.tr = 0) {i : Int} (hi : ¬ (i < 0 ∨ 2 ≤ i)) : (dClear d i).1 = 0 ∧ (dClear d i).2.tr = 0 ∧ (dClear d i).2.b i.toNat = [] := by
  unfold dClear
  rw [if_neg hi, if_neg (by omega)]
  exact ⟨rfl, by show d.tr - 1 = 0; omega, upd_at _ _ _⟩
theorem calm_add {d : DvN} (h : d.tr = 0) {i : Int} (hi : ¬ (i < 0 ∨ 2 ≤ i)) (s : List UInt8) (hs : (d.b i.toNat).length + s.length ≤ 1500) : (dAdd d i s).1 = 0 ∧ (dAdd d i s).2.tr = 0 := by
  unfold dAdd
  rw [if_neg hi, if_neg (by omega), if_neg (by omega)]
  exact ⟨rfl, by show d.tr - 1 = 0; omega⟩
theorem open_calm {z : List Int} (k : Int) {d : DvN} (h : d.tr = 0) (h0 : (d.b 0).length ≤ 11) (h1 : (d.b 1).length ≤ 11) : (openE dOps (newG k z) d).1 = 0 := by
  have n0 : ¬ ((0 : Int) < 0 ∨ (2 : Int) ≤ 0) := by omega
  have n1 : ¬ ((1 : Int) < 0 ∨ (2 : Int) ≤ 1) := by omega
  obtain ⟨a1, a2, a3⟩ := calm_sync h n0
  obtain ⟨b1, b2, b3⟩ := calm_sync a2 n1
  obtain ⟨c1, c2, c3, c4⟩ := calm_read b2 n0
  obtain ⟨e1, e2, e3, e4⟩ := calm_read c2 n1
  have s0 : scan (dRead (dSync (dSync d 0).2 1).2 0).1 = ar0 := scan_short (by rw [c4, b3, a3]; exact h0)
  have s1 : scan (dRead (dRead (dSync (dSync d 0).2 1).2 0).2.2 1).1 = ar0 := scan_short (by rw [e4, c3, b3, a3]; exact h1)
  unfold openE
  rw [readE_d, if_pos a1, if_pos b1, if_pos c1, if_pos e1]
  simp only [if_true]
  unfold findE
  rw [s0, s1, if_pos (show (cur2 ar0 ar0).2 = 0 by decide)]
  generalize (dRead (dRead (dSync (dSync d 0).2 1).2 0).2.2 1).2.2 = D at *
  obtain ⟨f1, f2, f3⟩ := calm_clear (d := D) e2 n0
  have hfr : (frE { newG k z with ar := 1 }).length ≤ 1500 := by
    have q := anewT_len 1 []
    show (anewT 1 []).length ≤ 1500
    simp at q
    omega
  obtain ⟨g1, g2⟩ := calm_add f2 n0 (frE { newG k z with ar := 1 }) (by rw [f3]; simpa using hfr)
  obtain ⟨i1, _, _⟩ := calm_sync g2 n0
  have hlay : (layE dOps { newG k z with ar := 1 } (dClear D 0).2 0 (frE { newG k z with ar := 1 })).1 = 0 := by
    rw [layE_d, if_pos g1, if_pos i1]
  unfold anewE
  rw [if_neg (by show ¬ 4294967295 < 0 + 1; omega), if_neg (Nat.not_lt.2 hfr)]
  have e0 : (dOps.clear D ((0 : Nat) : Int)) = dClear D 0 := rfl
  rw [e0, if_pos f1]
  have e9 : ((0 : Nat) : Int) = 0 := rfl
  rw [e9, if_pos hlay]
end Go.Proofs.YtmmflekajbeamabGreatDoor

namespace Go.Proofs.YtmmflekajbeamabGreatDoor
open Go.RowKit Go.Maps Go.WideMaps

/-- The bench's cells, all zero. -/
def bnC0 : Array Value := (#[.pointer none, .pointer none] ++ S zeroZ) ++ #[.slice none 0 0]
def bnPl : Array (Nat × Nat) := #[(0, 1), (1, 1), (2, 138), (140, 1)]
set_option maxRecDepth 100000 in
theorem placesB : (match Tryz.prog.underlying 39 with | some (.struct fs) => fs.toList.mapM (fun f => (Tryz.prog.info? f.type).map fun i => (f.offset, i.size)) | _ => none) = some bnPl.toList := by kernel_rfl
set_option maxRecDepth 100000 in
theorem infoBn : ∃ i, Tryz.prog.info? 39 = some i ∧ i.zero = some (.agg bnC0) := by
  have h : (Tryz.prog.info? 39).map (fun i => i.zero) = some (some (.agg bnC0)) := by kernel_rfl
  cases hq : Tryz.prog.info? 39 with
  | none => rw [hq] at h; cases h
  | some i =>
    rw [hq] at h
    simp only [Option.map_some, Option.some.injEq] at h
    exact ⟨i, rfl, h⟩
set_option maxRecDepth 100000 in
theorem builtBn (parts : List (Nat × Value)) : Tryz.prog.built 39 parts = Instr.fill (fun x => bnPl[x]?) bnC0 parts := by
  obtain ⟨i, hi, hz⟩ := infoBn
  have hp := placesB
  unfold Program.built
  rw [hi]
  rw [Tryz.underlying39] at hp ⊢
  simp only [hz] at hp ⊢
  rw [hp]
  rfl
theorem bnC0_size : bnC0.size = 141 := by unfold bnC0; simp [S_size, zeroZ]
def bnC (X Y : Nat) (z : List Int) : Array Value := layA 2 (S z) (layA 1 #[.pointer (some ⟨Y, 0, none⟩)] (layA 0 #[.pointer (some ⟨X, 0, none⟩)] bnC0))
theorem bnC_get (X Y : Nat) (z : List Int) (hz : z.length = 138) (j : Nat) : (bnC X Y z).size = 141 ∧ (bnC X Y z)[j]? = if 2 ≤ j ∧ j < 140 then (S z)[j - 2]? else if j = 1 then some (.pointer (some ⟨Y, 0, none⟩)) else if j = 0 then some (.pointer (some ⟨X, 0, none⟩)) else bnC0[j]? := by
  have s0 := bnC0_size
  have e1 : (layA 0 #[.pointer (some ⟨X, 0, none⟩)] bnC0).size = 141 := by rw [layA_size _ _ _ (by rw [s0]; simp), s0]
  have e2 : (layA 1 #[.pointer (some ⟨Y, 0, none⟩)] (layA 0 #[.pointer (some ⟨X, 0, none⟩)] bnC0)).size = 141 := by rw [layA_size _ _ _ (by rw [e1]; simp), e1]
  have zs : (S z).size = 138 := by rw [S_size, hz]
  unfold bnC
  refine ⟨by rw [layA_size _ _ _ (by rw [e2, zs]; decide), e2], ?_⟩
  rw [layA_get _ _ _ (by rw [e2, zs]; decide), zs]
  by_cases h1 : 2 ≤ j ∧ j < 140
  · rw [if_pos (by omega), if_pos h1]
  · rw [if_neg (by omega), if_neg h1, layA_get _ _ _ (by rw [e1]; simp)]
    by_cases h2 : j = 1
    · subst h2; rfl
    · rw [if_neg (by simp; omega), if_neg h2, layA_get _ _ _ (by rw [s0]; simp)]
      by_cases h3 : j = 0
      · subst h3; rfl
      · rw [if_neg (by simp; omega), if_neg h3]
theorem bnC0_last : bnC0[140]? = some (.slice none 0 0) := by
  unfold bnC0
  have hs : (#[Value.pointer none, .pointer none] ++ S zeroZ).size = 140 := by simp [S_size, zeroZ]
  rw [Array.getElem?_append_right (by rw [hs]; decide), hs]
  rfl
theorem build_bn (X Y : Nat) (z : List Int) (hz : z.length = 138) (w : World) : (Instr.build 39 #[(0, .pointer (some ⟨X, 0, none⟩)), (1, .pointer (some ⟨Y, 0, none⟩)), (2, .agg (S z))]).run Tryz.prog w = .ok (.agg (bnC X Y z)) w := by
  refine run_build w 39 _ _ ?_
  have s0 := bnC0_size
  have e1 : (layA 0 #[.pointer (some ⟨X, 0, none⟩)] bnC0).size = 141 := by rw [layA_size _ _ _ (by rw [s0]; simp), s0]
  have e2 : (layA 1 #[.pointer (some ⟨Y, 0, none⟩)] (layA 0 #[.pointer (some ⟨X, 0, none⟩)] bnC0)).size = 141 := by rw [layA_size _ _ _ (by rw [e1]; simp), e1]
  have zs : (S z).size = 138 := by rw [S_size, hz]
  rw [builtBn]
  show Instr.fill _ _ [(0, _), (1, _), (2, _)] = _
  rw [fill_one _ _ 0 _ _ 0 1 rfl rfl (by rw [s0]; decide), fill_one _ _ 1 _ _ 1 1 rfl rfl (by rw [show (Value.pointer (some ⟨X, 0, none⟩)).cells = #[.pointer (some ⟨X, 0, none⟩)] from rfl, e1]; decide)]
  rw [fill_one _ _ 2 (.agg (S z)) _ 2 138 rfl zs (by rw [show (Value.pointer (some ⟨X, 0, none⟩)).cells = #[.pointer (some ⟨X, 0, none⟩)] from rfl, show (Value.pointer (some ⟨Y, 0, none⟩)).cells = #[.pointer (some ⟨Y, 0, none⟩)] from rfl, e2]; decide)]
  rfl
theorem wpList_build3 {ops : Array Oper} {rest : List Oper} {o : Oper} {a : Act} {w : World} {Q : Exit → Act → World → Prop} (hg : o.guard = none) (ty : TypeId) (i j k : Nat) (x y z : Operand) (ho : o.op = .build ty #[(i, x), (j, y), (k, z)])
    (u v t r : Value) (hx : a.eval x = u) (hy : a.eval y = v) (hz : a.eval z = t) (hr : (Instr.build ty #[(i, u), (j, v), (k, t)]).run Tryz.prog w = .ok r w)
    (h : wpList Tryz.prog ops Q rest (a.put o.dst r) w) : wpList Tryz.prog ops Q (o :: rest) a w :=
  wpList_plain hg fun _ hK => wp_build3 ty i j k x y z ho u v t r hx hy hz hr (hK _ _ h)
/-- What a start over a new device comes to. -/
def op0 (z : List Int) : Int × EgN × DvN := openE dOps (newG 1 z) (engD dv0)
structure O0 (z : List Int) (R : Int × EgN × DvN) : Prop where
  ok : R.1 = 0
  dv : DvOK R.2.2
  wk : R.2.2.wk = 1
  z : R.2.1.z = z
  gk : GOK R.2.1 1500
theorem wrap_one : wrap64 (0 + 1) = 1 := by unfold wrap64; omega
theorem op0_ok {z : List Int} (hz : RunOK z) : O0 z (op0 z) := by
  unfold op0
  exact ⟨open_calm 1 (d := engD dv0) rfl (Nat.zero_le _) (Nat.zero_le _), open_clo clo_ok _ _ (fun _ _ => Nat.le_refl _), open_clo (clo_wk 1) _ _ wrap_one, openE_z _ _ _, GOK.open hz 1 (engD dv0) (fun _ _ => Nat.zero_le _)⟩
/-- What bench leaves. -/
def BcFin (z : List Int) (R : Int × EgN × DvN) (w : World) (B : Nat) (w' : World) : Prop := ∃ b e, BnAt w.heap.size B b (some e) 1 1500 w' ∧ Below w.heap.size w w' ∧ b.z = z ∧ b.d = R.2.2 ∧ e.g = R.2.1 ∧ b.mv = .slice none 0 0
theorem bc_end {z : List Int} {R : Int × EgN × DvN} (hR : O0 z R) {w W0 w1 w2 W3 : World} (hz : RunOK z) (hW0 : Below w.heap.size w W0) (hb1 : Below W0.heap.size W0 w1) (hs1 : w1.heap.size = W0.heap.size + 2) (hx1 : XAt (W0.heap.size + 1) W0.heap.size w1) {vs' : Nat → Value} (hd : DvAt W0.heap.size R.2.2 vs' w2) (hc : Chg (dHas W0.heap.size nilV) w1 w2) (vo : ∀ x, dHas W0.heap.size vs' x → dHas W0.heap.size nilV x ∨ w1.heap.size ≤ x) {X E : Nat} {m1 v1 : Nat → Value} (hX : w1.heap.size ≤ X) (hxa : XAt X E w2) (hea : EdAt E W0.heap.size R.2.1 R.2.2 m1 v1 vs' w2) (hef : ∀ x, eHas E m1 v1 x → w1.heap.size ≤ x ∧ x ≠ X) (hdx : ∀ x, dHas W0.heap.size vs' x → x ≠ X)
    (hW3 : W3 = w2.alloc (.cells (bnC (W0.heap.size + 1) X z) 39)) : BcFin z R w w2.heap.size W3 := by
  have hz2 := hc.size
  have h00 := hW0.size
  have hb3 : Below w2.heap.size w2 W3 := by rw [hW3]; exact (Below.refl _ _).alloc (Nat.le_refl _) _
  have r : W3.heap[w2.heap.size]? = some (.cells (bnC (W0.heap.size + 1) X z) 39 (0, 0)) := by rw [hW3, _root_.Go.heap_alloc_new]
  have hc3 : ∀ j, W3.cell? ⟨w2.heap.size, j, none⟩ = (bnC (W0.heap.size + 1) X z)[j]? := fun j => cell_row r j
  have hwk := hR.wk
  have hX2 : X < w2.heap.size := block_lt_of_cell hxa
  have nD1 : ∀ x, dHas W0.heap.size nilV x → x = W0.heap.size := fun x q => by
    rcases q with q | ⟨i, _, q⟩
    · exact q
    · cases q
  have hx2 : XAt (W0.heap.size + 1) W0.heap.size w2 := (World.cell?_of_block (hc.other _ (by show W0.heap.size + 1 < _; omega) (fun q => by have := nD1 _ q; have q' : W0.heap.size + 1 = W0.heap.size := this; omega))).trans hx1
  have hdv : ∀ x, dHas W0.heap.size vs' x → x = W0.heap.size ∨ w1.heap.size ≤ x := fun x q => (vo x q).imp (nD1 x) id
  have hk : ∀ x, x < w2.heap.size → W3.heap[x]? = w2.heap[x]? := fun x q => hb3.block x q
  have hbel : Below w.heap.size w W3 := by
    have hb2 : Below w.heap.size w1 w2 := hc.below (by omega) (fun x q => by have := nD1 x q; omega)
    exact ((hW0.trans (hb1.mono h00)).trans hb2).trans (hb3.mono (by omega))
  refine ⟨⟨W0.heap.size + 1, W0.heap.size, R.2.2, vs', z, .slice none 0 0⟩, ⟨X, E, R.2.1, m1, v1⟩, ⟨⟨?_, fun j => ?_, ?_, ?_, fun j u q => ?_, ?_, ?_, ?_, ?_, ?_, hz, ⟨by omega, fun x q => ?_⟩, fun q => ?_, fun q => ?_⟩, fun q => (by cases q), fun e q => ?_⟩, hbel, rfl, rfl, rfl, rfl⟩
  · exact (Array.getElem?_eq_some_iff.1 r).1
  · unfold World.frozen?; rw [r]; simp
  · rw [hc3, (bnC_get _ _ z hz.len 0).2]; rfl
  · exact ⟨_, by rw [hc3, (bnC_get _ _ z hz.len 1).2]; rfl⟩
  · have hj : j < 138 := by have := (List.getElem?_eq_some_iff.1 q).1; rw [List.length_map, hz.len] at this; exact this
    rw [hc3, (bnC_get _ _ z hz.len (2 + j)).2, if_pos (by omega), Nat.add_sub_cancel_left, ← q]
    unfold S
    simp
  · rw [hc3, (bnC_get _ _ z hz.len 140).2, if_neg (by omega), if_neg (by omega), if_neg (by omega)]
    exact bnC0_last
  · exact (World.cell?_of_block (hk _ (by show W0.heap.size + 1 < _; omega))).trans hx2
  · exact hd.kept hb3.size (fun x q => hk x (hd.has q).2)
  · exact hR.dv
  · show 0 ≤ R.2.2.wk ∧ R.2.2.wk ≤ ((1 : Nat) : Int)
    rw [hwk]
    decide
  · rcases q with q | q
    · have q' : x = W0.heap.size + 1 := q; omega
    · rcases hdv x q with c | c <;> omega
  · rcases q with q | q
    · have q' : w2.heap.size = W0.heap.size + 1 := q; omega
    · have := (hd.has q).2; omega
  · rcases hdv _ q with c | c
    · have c' : W0.heap.size + 1 = W0.heap.size := c; omega
    · have c' : w1.heap.size ≤ W0.heap.size + 1 := c; omega
  · cases q
    refine ⟨by rw [hc3, (bnC_get _ _ z hz.len 1).2]; rfl, (World.cell?_of_block (hk _ hX2)).trans hxa, hea.eg.kept (fun x q => hk x (hea.eg.has q).2), ?_, hR.z, fun x q => ?_, fun q => ?_, fun q => (hef X q).2 rfl, fun x q1 q2 => ?_⟩
    · exact hR.gk
    · rcases q with q | q
      · have q' : x = X := q; omega
      · have := (hef x q).1; omega
    · rcases q with q | q
      · have q' : w2.heap.size = X := q; omega
      · have := (hea.eg.has q).2; omega
    · have hx1' : w1.heap.size ≤ x := by
        rcases q1 with q1 | q1
        · have q1' : x = X := q1; omega
        · exact (hef x q1).1
      rcases q2 with q2 | q2
      · have q2' : x = W0.heap.size + 1 := q2; omega
      · rcases q1 with q1 | q1
        · exact hdx x q2 q1
        · exact hea.sep x q1 q2
set_option maxRecDepth 100000 in
set_option maxHeartbeats 4000000 in
theorem bench_any (z : List Int) (w : World) (hz : RunOK z) (ht : Tab w) :
    Calls Tryz.prog 7 #[.agg (S z)] w fun e' w' => ∃ B, e' = .returned (.pointer (some ⟨B, 0, none⟩)) ∧ BcFin z (op0 z) w B w' := by
  obtain ⟨W0, hW0⟩ : ∃ W0, W0 = w.alloc (.cells (S z) 25) := ⟨_, rfl⟩
  have hb0 : Below w.heap.size w W0 := by rw [hW0]; exact (Below.refl _ _).alloc (Nat.le_refl _) _
  have hs0 : W0.heap.size = w.heap.size + 1 := by rw [hW0, size_alloc1]
  have r0 : RowI W0 w.heap.size 25 z := by unfold RowI; rw [hW0, _root_.Go.heap_alloc_new]
  have HND := hide (newDevice_any W0)
  have hzl := hz.len
  have HZ := hide hz; have HB0 := hide hb0; have HR0 := hide r0; have HT := hide ht; have HW0 := hide hW0
  have HBd := hide (fun X Y w' => build_bn X Y z hzl w')
  have szl := zlen z hzl
  have HS0 := hide hs0
  clear hz ht hb0 r0 hW0 hs0
  go_enter Tryz.func7, Tryz.ntmps7
  go_upto_region 1 with fail
  rw [← HW0.out]
  go_wp2_with fail
  refine (unhide HND).mono ?_
  rintro e w1 ⟨rfl, hd1, hx1, hs1, hb1⟩
  have r1 : RowI w1 w.heap.size 25 z := HR0.out.keep (hb1.block _ HR0.out.lt)
  have g1 := range_row r1 0 138 (by omega)
  rw [List.drop_zero, List.take_of_length_le (by omega)] at g1
  have HSt := hide (cStart_any (W0.heap.size + 1) W0.heap.size dv0 nilV z w1 hx1 hd1 (HT.out.below HT.out.pos (HB0.out.trans (hb1.mono (by have := HS0.out; omega)))) hzl HZ.out.st)
  have HX1 := hide hx1; have HS1 := hide hs1; have HB1 := hide hb1; have HR1 := hide r1
  clear hd1 hx1 hs1 hb1 r1 HND
  go_wp2_with (refine wpList_load_mid rfl 25 _ rfl w.heap.size 0 rfl (z.map (Value.int .i64)) _ g1 Tryz.underlying25 rfl szl ?_)
  refine (unhide HSt).mono ?_
  rintro e w2 ⟨vs', hd, hc, vo, hres⟩
  have e1 : wrap64 (dv0.wk + 1) = 1 := wrap_one
  have hop : openE dOps (newG 1 z) (engD dv0) = op0 z := by unfold op0; rfl
  rw [e1, hop] at hd hres
  have HO := hide (op0_ok HZ.out)
  obtain ⟨R, hR⟩ : ∃ R, R = op0 z := ⟨_, rfl⟩
  rw [← hR] at hd hres HO
  have HRe := hide hR
  clear hR
  rcases hres with ⟨hn, _⟩ | ⟨_, X, E, m1, v1, hE, hX, rfl, hxa, hea, hef, hdx⟩
  · exact absurd HO.out.ok hn
  have hws : w.heap.size < w1.heap.size := HR1.out.lt
  have r2 : RowI w2 w.heap.size 25 z := HR1.out.keep (hc.other _ hws (fun q => by
    rcases q with q | ⟨i, _, q⟩
    · have := HS0.out; omega
    · cases q))
  have g2 := range_row r2 0 138 (by omega)
  rw [List.drop_zero, List.take_of_length_le (by omega)] at g2
  have HEnd : Hid (∀ W3, W3 = w2.alloc (.cells (bnC (W0.heap.size + 1) X z) 39) → BcFin z R w w2.heap.size W3) := fun W3 e => bc_end HO.out HZ.out HB0.out HB1.out HS1.out HX1.out hd hc vo hX hxa hea hef hdx e
  clear hd hc vo hE hX hxa hea hef hdx r2 g1 HSt e1 hop
  go_upto_region 7 with fail
  go_wp2_with (first
    | (refine wpList_load_midZ rfl 25 _ rfl w.heap.size 0 rfl z _ g2 Tryz.underlying25 rfl szl ?_)
    | (refine wpList_build3 rfl 39 0 1 2 _ _ _ rfl (.pointer (some ⟨W0.heap.size + 1, 0, none⟩)) (.pointer (some ⟨X, 0, none⟩)) (.agg (S z)) (.agg (bnC (W0.heap.size + 1) X z)) rfl rfl rfl (HBd.out _ _ _) ?_))
  go_ret
  exact ⟨w2.heap.size, rfl, by rw [← HRe.out]; exact HEnd.out _ rfl⟩
end Go.Proofs.YtmmflekajbeamabGreatDoor
