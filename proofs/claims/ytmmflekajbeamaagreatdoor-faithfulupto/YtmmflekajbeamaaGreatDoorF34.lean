/-
  A hand of the law: an engine of the program and the document's, over a pair of devices; what a call of both leaves.
  Calls of a hand, the program's and then the document's: Persist, Compact, Run.
  Faithful: Persist or Compact of the bench (laid).
  Faithful: the device crashes, and what it holds is copied to a new one (moves).
  The calls Sum, Seal, Scan of the package; the law's seals and scans.
  Faithful: one step of the bench (step), kind by kind.
-/
import Derived.Test.YtmmflekajbeamaaGreatDoorF32
import Derived.Test.YtmmflekajbeamaaGreatDoorF17
import Derived.Test.YtmmflekajbeamaaGreatDoorF33
import Derived.Test.YtmmflekajbeamaaGreatDoorF13
import Derived.Test.YtmmflekajbeamaaGreatDoorF09
namespace Go.Proofs.YtmmflekajbeamaaGreatDoor
open Go.RowKit Go.Maps Go.WideMaps

end Go.Proofs.YtmmflekajbeamaaGreatDoor

namespace Go.Proofs.YtmmflekajbeamaaGreatDoor
open Go.RowKit Go.Maps Go.WideMaps

set_option maxRecDepth 100000 in
set_option maxHeartbeats 2000000 in
theorem ePersist_over (E D : Nat) (g : EgN) (d : DvN) (m v vs : Nat → Value) (w : World) (h : EdAt E D g d m v vs w) (ho : overE g d.wk = true) :
    Calls Tryz.prog 43 #[.pointer (some ⟨E, 0, none⟩)] w (EPost E D m v vs w 17 g d) := by
  have HO := hide (isOver_any E D g d m v vs w h)
  rw [ho] at HO
  have HH := hide h
  clear h ho
  go_enter Tryz.func43, Tryz.ntmps43
  go_wp2_with fail
  refine (unhide HO).mono ?_
  rintro e w1 ⟨rfl, nq, rfl⟩
  clear HO
  go_wp2_with fail
  go_ret
  exact ⟨rfl, m, v, vs, HH.out.drewN nq, EdFr.of_below (below_drewN (Below.refl _ _) _)⟩
end Go.Proofs.YtmmflekajbeamaaGreatDoor

namespace Go.Proofs.YtmmflekajbeamaaGreatDoor
open Go.RowKit Go.Maps Go.WideMaps

/-- What a Persist (a Compact) of the bench's engine comes to. -/
def ldB (b : Bn) (g : EgN) (c : Bool) : Int × EgN × DvN := if overE g b.d.wk = true then (17, g, b.d) else if c = true then anewE dOps g b.d (1 - g.ar) else persE dOps g b.d
theorem ldB_ok {b : Bn} {g : EgN} {k : Nat} (hd : DvOK b.d) (hg : GOK g k) (c : Bool) : DvOK (ldB b g c).2.2 ∧ (ldB b g c).2.2.wk = b.d.wk ∧ (ldB b g c).2.1.z = g.z ∧ GOK (ldB b g c).2.1 k ∧ ((ldB b g c).1 = 17 ∨ isCd (ldB b g c).1) ∧ ((ldB b g c).1 = 0 → (ldB b g c).2.1.b 1 = []) := by
  unfold ldB
  split
  · exact ⟨hd, rfl, rfl, hg, .inl rfl, fun h => by cases h⟩
  · split
    · exact ⟨anew_clo clo_ok _ _ _ hd, anew_clo (clo_wk b.d.wk) _ _ _ rfl, anewE_z _ _ _ _, hg.anew _ (by omega), .inr (anew_code _ _ _ _), anew_wait _ _ _ _⟩
    · exact ⟨pers_clo clo_ok _ _ hd, pers_clo (clo_wk b.d.wk) _ _ rfl, persE_z _ _ _, hg.pers _, .inr (pers_code _ _ _), pers_wait _ _ _⟩
theorem persist_call {N B : Nat} {b : Bn} {e : En} {m k : Nat} {w : World} (h : BnAt N B b (some e) m k w) (ht : Tab w) (hk : k ≤ 99999900000) :
    Calls Tryz.prog 16 #[.pointer (some ⟨e.X, 0, none⟩)] w (EPost e.E b.D e.m e.v b.vs w (ldB b e.g false).1 (ldB b e.g false).2.1 (ldB b e.g false).2.2) := by
  have hE := h.2.2 e rfl
  refine cPersist_of e.X e.E w hE.x _ (fun e' w' q => ⟨_, q.1⟩) ?_
  unfold ldB
  by_cases ho : overE e.g b.d.wk = true
  · rw [if_pos ho]
    exact ePersist_over e.E b.D e.g b.d e.m e.v b.vs w h.ed ho
  · rw [if_neg ho, if_neg (by decide)]
    exact ePersist_any e.E b.D e.g b.d e.m e.v b.vs w h.ed ht (hE.ok.eg (by omega)) hE.ok.sz (by simpa using ho)
theorem compact_call {N B : Nat} {b : Bn} {e : En} {m k : Nat} {w : World} (h : BnAt N B b (some e) m k w) (ht : Tab w) (hk : k ≤ 99999900000) :
    Calls Tryz.prog 50 #[.pointer (some ⟨e.X, 0, none⟩)] w (EPost e.E b.D e.m e.v b.vs w (ldB b e.g true).1 (ldB b e.g true).2.1 (ldB b e.g true).2.2) := by
  have hE := h.2.2 e rfl
  refine cCompact_of e.X e.E w hE.x _ (fun e' w' q => ⟨_, q.1⟩) ?_
  have := eCompact_any e.E b.D e.g b.d e.m e.v b.vs w h.ed ht (hE.ok.eg (by omega))
  unfold ldB
  rw [if_pos (rfl : true = true)]
  exact this
/-- What laid leaves. -/
def LdFin (N B : Nat) (b : Bn) (e : En) (R : Int × EgN × DvN) (m k : Nat) (w w' : World) : Prop := ∃ m1 v1 vs', BnAt N B { b with d := R.2.2, vs := vs' } (some { e with g := R.2.1, m := m1, v := v1 }) m k w' ∧ Below N w w'
def LdPost (N B : Nat) (b : Bn) (e : En) (c : Bool) (m k : Nat) (w : World) (e' : Ending) (w' : World) : Prop :=
  e' = .returned (.tuple #[.bool (decide ((ldB b e.g c).1 = 0)), .bool true]) ∧ LdFin N B b e (ldB b e.g c) m k w w'
set_option maxRecDepth 100000 in
set_option maxHeartbeats 2000000 in
theorem laid_nil {N B : Nat} {b : Bn} {m k : Nat} {w : World} (h : BnAt N B b none m k w) (c : Bool) :
    Calls Tryz.prog 23 #[.pointer (some ⟨B, 0, none⟩), .bool c] w fun e' w' => e' = .returned (.tuple #[.bool false, .bool true]) ∧ w' = w := by
  have c1 := h.2.1 rfl
  clear h
  go_enter Tryz.func23, Tryz.ntmps23
  go_wp2_with fail
  go_ret2
  exact ⟨rfl, rfl⟩
/-- The end of laid, behind the engine's call. -/
theorem ld_end {N B : Nat} {b : Bn} {e : En} {c : Bool} {m k : Nat} {w w1 : World} (h : BnAt N B b (some e) m k w) (hN : N ≤ w.heap.size) {m1 v1 vs' : Nat → Value} (a : EdAt e.E b.D (ldB b e.g c).2.1 (ldB b e.g c).2.2 m1 v1 vs' w1) (f : EdFr e.E b.D e.m e.v b.vs m1 v1 vs' w w1) : BnAt N B { b with d := (ldB b e.g c).2.2, vs := vs' } (some { e with g := (ldB b e.g c).2.1, m := m1, v := v1 }) m k w1 ∧ Below N w w1 := by
  have hE := h.2.2 e rfl
  obtain ⟨q1, q2, q3, q4, _⟩ := ldB_ok h.1.ok hE.ok c
  obtain ⟨r1, r2, _, r4⟩ := h.eng hN a f q1 (by rw [q2]; exact h.1.wk) q4
  exact ⟨⟨r1, fun q => (by cases q), fun e' q => by cases q; exact r2 (q3.trans hE.z)⟩, r4⟩
set_option maxRecDepth 100000 in
set_option maxHeartbeats 8000000 in
theorem laid_any {N B : Nat} {b : Bn} {e : En} {m k : Nat} {w : World} (h : BnAt N B b (some e) m k w) (hN : N ≤ w.heap.size) (ht : Tab w) (hk : k ≤ 99999900000) (c : Bool) :
    Calls Tryz.prog 23 #[.pointer (some ⟨B, 0, none⟩), .bool c] w (LdPost N B b e c m k w) := by
  have hE := h.2.2 e rfl
  have c1 := hE.c1
  have HP := hide (persist_call h ht hk)
  have HQ := hide (compact_call h ht hk)
  have HEnd := hide (fun (w1 : World) (m1 v1 vs' : Nat → Value) (a : EdAt e.E b.D (ldB b e.g c).2.1 (ldB b e.g c).2.2 m1 v1 vs' w1) (f : EdFr e.E b.D e.m e.v b.vs m1 v1 vs' w w1) => ld_end h hN a f)
  have HOk := hide (ldB_ok h.1.ok hE.ok c)
  have hcase : c = true ∨ c = false := by cases c <;> simp
  have HN := hide hN
  clear h hE ht hk hN
  unfold LdPost
  rcases hcase with rfl | rfl
  · generalize ldB b e.g true = L at *
    obtain ⟨n, g', d'⟩ := L
    simp only at HQ HEnd HOk ⊢
    go_enter Tryz.func23, Tryz.ntmps23
    go_wp2_with fail
    refine (unhide HQ).mono ?_
    rintro e' w1 ⟨rfl, m1, v1, vs', a, f⟩
    obtain ⟨hn1, hb1⟩ := HEnd.out w1 m1 v1 vs' a f
    have k1 := (hn1.2.2 _ rfl).c1
    have HC := hide (cCounts_any e.X e.E b.D g' m1 v1 w1 (hn1.2.2 _ rfl).x (hn1.2.2 _ rfl).eg)
    have HN1 := hide hn1; have HB1 := hide hb1
    have hz1 := hb1.size
    obtain ⟨_, _, _, _, hcd, hwt⟩ := HOk.out
    clear a f hn1 hb1 HP HQ HEnd HOk c1
    have hcd' : n = 0 ∨ n = 14 ∨ n = 15 ∨ n = 16 ∨ n = 17 := by
      rcases hcd with q | q | q | q | q
      · exact .inr (.inr (.inr (.inr q)))
      · exact .inl q
      · exact .inr (.inl q)
      · exact .inr (.inr (.inl q))
      · exact .inr (.inr (.inr (.inl q)))
    clear hcd
    rcases hcd' with rfl | rfl | rfl | rfl | rfl
    · have hw0 : (g'.b 1).length = 0 := by rw [hwt rfl]; rfl
      rw [hw0] at HC
      clear hwt hw0
      generalize g'.c 0 = C0 at *
      generalize g'.c 1 = C1 at *
      generalize g'.c 2 = C2 at *
      generalize g'.c 3 = C3 at *
      go_wp2_with fail
      refine (unhide HC).mono ?_
      rintro e' w2 ⟨rfl, hb2⟩
      have HB2 := hide hb2
      have hz2 := hb2.size
      clear hb2 HC k1
      go_wp2_with fail
      go_quiet (fail)
      go_wp2_with fail
      go_ret2
      have hb : Below w1.heap.size w1 _ := below_drewN (HB2.out.alloc hz2 (.cells #[.int .i64 (C0 : Int), .int .i64 (C1 : Int), .int .i64 (C2 : Int), .int .i64 (C3 : Int), .int .i64 0] 66)) nq
      exact ⟨rfl, m1, v1, vs', HN1.out.up (by have := HN.out; omega) hb, HB1.out.trans (hb.mono (by have := HN.out; omega))⟩
    all_goals
      clear hwt HC
      go_wp2_with fail
      go_ret2
      exact ⟨rfl, m1, v1, vs', HN1.out, HB1.out⟩
  · generalize ldB b e.g false = L at *
    obtain ⟨n, g', d'⟩ := L
    simp only at HP HEnd HOk ⊢
    go_enter Tryz.func23, Tryz.ntmps23
    go_wp2_with fail
    refine (unhide HP).mono ?_
    rintro e' w1 ⟨rfl, m1, v1, vs', a, f⟩
    obtain ⟨hn1, hb1⟩ := HEnd.out w1 m1 v1 vs' a f
    have k1 := (hn1.2.2 _ rfl).c1
    have HC := hide (cCounts_any e.X e.E b.D g' m1 v1 w1 (hn1.2.2 _ rfl).x (hn1.2.2 _ rfl).eg)
    have HN1 := hide hn1; have HB1 := hide hb1
    have hz1 := hb1.size
    obtain ⟨_, _, _, _, hcd, hwt⟩ := HOk.out
    clear a f hn1 hb1 HP HQ HEnd HOk c1
    have hcd' : n = 0 ∨ n = 14 ∨ n = 15 ∨ n = 16 ∨ n = 17 := by
      rcases hcd with q | q | q | q | q
      · exact .inr (.inr (.inr (.inr q)))
      · exact .inl q
      · exact .inr (.inl q)
      · exact .inr (.inr (.inl q))
      · exact .inr (.inr (.inr (.inl q)))
    clear hcd
    rcases hcd' with rfl | rfl | rfl | rfl | rfl
    · have hw0 : (g'.b 1).length = 0 := by rw [hwt rfl]; rfl
      rw [hw0] at HC
      clear hwt hw0
      generalize g'.c 0 = C0 at *
      generalize g'.c 1 = C1 at *
      generalize g'.c 2 = C2 at *
      generalize g'.c 3 = C3 at *
      go_wp2_with fail
      refine (unhide HC).mono ?_
      rintro e' w2 ⟨rfl, hb2⟩
      have HB2 := hide hb2
      have hz2 := hb2.size
      clear hb2 HC k1
      go_wp2_with fail
      go_quiet (fail)
      go_wp2_with fail
      go_ret2
      have hb : Below w1.heap.size w1 _ := below_drewN (HB2.out.alloc hz2 (.cells #[.int .i64 (C0 : Int), .int .i64 (C1 : Int), .int .i64 (C2 : Int), .int .i64 (C3 : Int), .int .i64 0] 66)) nq
      exact ⟨rfl, m1, v1, vs', HN1.out.up (by have := HN.out; omega) hb, HB1.out.trans (hb.mono (by have := HN.out; omega))⟩
    all_goals
      clear hwt HC
      go_wp2_with fail
      go_ret2
      exact ⟨rfl, m1, v1, vs', HN1.out, HB1.out⟩
end Go.Proofs.YtmmflekajbeamaaGreatDoor

namespace Go.Proofs.YtmmflekajbeamaaGreatDoor
open Go.RowKit Go.Maps Go.WideMaps

theorem calm_tick {d : DvN} (h : d.tr = 0) : d.tick = d := by
  obtain ⟨b, n, tr, wk⟩ := d
  have h' : tr = 0 := h
  subst h'
  rfl
theorem read_calm {d : DvN} (h : d.tr = 0) {i : Nat} (hi : i < 2) : dRead d (i : Int) = (d.b i, 0, d) := by
  unfold dRead
  rw [if_neg (by omega), if_neg (by omega), calm_tick h]
  rfl
/-- A device with the bytes s laid down in the area i of another. -/
def cpB (d : DvN) (i : Nat) (s : List UInt8) : DvN := { d with b := upd d.b i (d.b i ++ s), n := upd d.n i (d.b i ++ s).length }
theorem add_calm {d : DvN} (h : d.tr = 0) {i : Nat} (hi : i < 2) {s : List UInt8} (hs : (d.b i).length + s.length ≤ 1500) : dAdd d (i : Int) s = (0, { d with b := upd d.b i (d.b i ++ s) }) := by
  unfold dAdd
  rw [if_neg (by omega), if_neg (by omega), if_neg (by rw [Int.toNat_natCast]; omega), calm_tick h]
  rfl
theorem sync_calm {d : DvN} (h : d.tr = 0) {i : Nat} (hi : i < 2) : dSync d (i : Int) = (0, { d with n := upd d.n i (d.b i).length }) := by
  unfold dSync
  rw [if_neg (by omega), if_neg (by omega), calm_tick h]
  rfl
theorem cp_calm {d : DvN} (h : d.tr = 0) {i : Nat} (hi : i < 2) {s : List UInt8} (hs : (d.b i).length + s.length ≤ 1500) : (dSync (dAdd d (i : Int) s).2 (i : Int)) = (0, cpB d i s) := by
  rw [add_calm h hi hs]
  show dSync { d with b := upd d.b i (d.b i ++ s) } (i : Int) = _
  rw [sync_calm (d := { d with b := upd d.b i (d.b i ++ s) }) h hi]
  show ((0 : Int), ({ d with b := upd d.b i (d.b i ++ s), n := upd d.n i (upd d.b i (d.b i ++ s) i).length } : DvN)) = _
  rw [upd_at]
  rfl
/-- The new device behind i areas. -/
def mvI (d : DvN) : Nat → DvN
  | 0 => dv0
  | i + 1 => cpB (mvI d i) i (d.b i)
def mvD (d : DvN) : DvN := mvI d 2
theorem mvI_tr (d : DvN) : ∀ i, (mvI d i).tr = 0
  | 0 => rfl
  | i + 1 => mvI_tr d i
theorem mvI_wk (d : DvN) : ∀ i, (mvI d i).wk = 0
  | 0 => rfl
  | i + 1 => mvI_wk d i
theorem mvI_nil (d : DvN) : ∀ i j, i ≤ j → (mvI d i).b j = []
  | 0, j, _ => rfl
  | i + 1, j, h => by
    show upd (mvI d i).b i _ j = []
    rw [upd_ne _ _ _ _ (by omega)]
    exact mvI_nil d i j (by omega)
theorem mvI_ok (d : DvN) : ∀ i, DvOK (mvI d i)
  | 0 => fun _ _ => Nat.le_refl _
  | i + 1 => fun j hj => by
    show upd (mvI d i).n i ((mvI d i).b i ++ d.b i).length j ≤ (upd (mvI d i).b i ((mvI d i).b i ++ d.b i) j).length
    unfold upd
    split
    · exact Nat.le_refl _
    · exact mvI_ok d i j hj
theorem crN_ok (d : DvN) (keep : Int) (j : List UInt8) (h : DvOK d) : ∀ k, DvOK (crN d keep j k)
  | 0 => h
  | k + 1 => fun i hi => by
    have ih := crN_ok d keep j h k i hi
    unfold crN
    show upd (crN d keep j k).n k _ i ≤ (upd (crN d keep j k).b k _ i).length
    unfold upd
    split
    · exact Nat.le_refl _
    · exact ih
theorem crash_ok (d : DvN) (keep : Int) (j : List UInt8) (h : DvOK d) {m : Nat} (hw : 0 ≤ d.wk ∧ d.wk ≤ (m : Int)) (hm : m ≤ 1000000000000000) : DvOK (dCrash d keep j) ∧ (dCrash d keep j).wk = d.wk + 1 := by
  refine ⟨crN_ok d keep j h 2, ?_⟩
  show wrap64 (d.wk + 1) = d.wk + 1
  unfold wrap64
  omega
/-- Two devices: the bench's, and the new one. -/
structure MvAt (N B : Nat) (b : Bn) (X2 D2 : Nat) (d2 : DvN) (vs2 : Nat → Value) (m : Nat) (w : World) : Prop where
  bd : BdAt N B b m w
  x : XAt X2 D2 w
  dv : DvAt D2 d2 vs2 w
  fr : ∀ x, x = X2 ∨ dHas D2 vs2 x → ¬ b.has x ∧ x ≠ B ∧ N ≤ x
  nX : ¬ dHas D2 vs2 X2
theorem MvAt.xlt {N B : Nat} {b : Bn} {X2 D2 : Nat} {d2 : DvN} {vs2 : Nat → Value} {m : Nat} {w : World} (h : MvAt N B b X2 D2 d2 vs2 m w) : X2 < w.heap.size := block_lt_of_cell h.x
theorem dfr_vo {D : Nat} {vs vs' : Nat → Value} {w w' : World} (hf : DFr D vs vs' w w') : ∀ x, dHas D vs' x → dHas D vs x ∨ w.heap.size ≤ x := fun x q => by
  rcases q with q | ⟨i, hi, q⟩
  · exact .inl (.inl q)
  · exact (hf.own i hi x q).imp (fun c => .inr ⟨i, hi, c⟩) id
/-- A call of the old device. -/
theorem MvAt.old {N B : Nat} {b : Bn} {X2 D2 : Nat} {d2 d' : DvN} {vs2 vs' : Nat → Value} {m : Nat} {w w' : World} (h : MvAt N B b X2 D2 d2 vs2 m w) (hN : N ≤ w.heap.size) (hd : DvAt b.D d' vs' w') (hf : DFr b.D b.vs vs' w w') (ok : DvOK d') (wk : 0 ≤ d'.wk ∧ d'.wk ≤ (m : Int)) : MvAt N B { b with d := d', vs := vs' } X2 D2 d2 vs2 m w' ∧ Below N w w' := by
  have vo := dfr_vo hf
  have hB := hf.chg.other B h.bd.lt (fun q => h.bd.nB (.inr q))
  refine ⟨⟨h.bd.turn hf.below.size hN hB (hf.chg.other _ h.bd.xlt h.bd.nX) hd ok wk vo, (World.cell?_of_block (hf.chg.other X2 h.xlt (fun q => (h.fr X2 (.inl rfl)).1 (.inr q)))).trans h.x, h.dv.kept hf.below.size (fun x q => hf.chg.other x (h.dv.has q).2 (fun c => (h.fr x (.inr q)).1 (.inr c))), fun x q => ⟨fun c => ?_, (h.fr x q).2⟩, h.nX⟩, hf.chg.below hN (fun x q => h.bd.ge.2 x (.inr q))⟩
  rcases c with c | c
  · exact (h.fr x q).1 (.inl c)
  · rcases vo x c with e | e
    · exact (h.fr x q).1 (.inr e)
    · rcases q with q | q
      · have := h.xlt; omega
      · have := (h.dv.has q).2; omega
/-- A call of the new device. -/
theorem MvAt.new {N B : Nat} {b : Bn} {X2 D2 : Nat} {d2 d' : DvN} {vs2 vs' : Nat → Value} {m : Nat} {w w' : World} (h : MvAt N B b X2 D2 d2 vs2 m w) (hN : N ≤ w.heap.size) (hd : DvAt D2 d' vs' w') (hf : DFr D2 vs2 vs' w w') : MvAt N B b X2 D2 d' vs' m w' ∧ Below N w w' := by
  have vo := dfr_vo hf
  have oB := hf.chg.other B h.bd.lt (fun q => (h.fr B (.inr q)).2.1 rfl)
  have oX := hf.chg.other b.X h.bd.xlt (fun q => (h.fr _ (.inr q)).1 (.inl rfl))
  refine ⟨⟨h.bd.turn hf.below.size hN oB oX (h.bd.dv.kept hf.below.size (fun x q => hf.chg.other x (h.bd.dv.has q).2 (fun c => (h.fr x (.inr c)).1 (.inr q)))) h.bd.ok h.bd.wk (fun _ q => .inl q), (World.cell?_of_block (hf.chg.other X2 h.xlt h.nX)).trans h.x, hd, fun x q => ?_, fun q => ?_⟩, hf.chg.below hN (fun x q => (h.fr x (.inr q)).2.2)⟩
  · rcases q with q | q
    · exact h.fr x (.inl q)
    · rcases vo x q with e | e
      · exact h.fr x (.inr e)
      · refine ⟨fun c => ?_, by have := h.bd.lt; omega, by omega⟩
        have := h.bd.has c
        omega
  · rcases vo _ q with e | e
    · exact h.nX e
    · have := h.xlt; omega
/-- The new device in the bench. -/
theorem MvAt.put {N B : Nat} {b : Bn} {X2 D2 : Nat} {d2 : DvN} {vs2 : Nat → Value} {m : Nat} {w : World} (h : MvAt N B b X2 D2 d2 vs2 m w) (ok : DvOK d2) (wk : 0 ≤ d2.wk ∧ d2.wk ≤ (m : Int)) : BdAt N B { b with X := X2, D := D2, d := d2, vs := vs2 } m (w.setCell ⟨B, 0, none⟩ (.pointer (some ⟨X2, 0, none⟩))) := by
  have hb := h.bd
  obtain ⟨v, q⟩ := hb.c1
  have hne : ∀ x, x = X2 ∨ dHas D2 vs2 x → x ≠ B := fun x q => (h.fr x q).2.1
  refine ⟨by rw [set_size]; exact hb.lt, fun k => by rw [World.frozen?_setCell]; exact hb.fz k, World.cell?_setCell_same _ _ _ hb.c0, ⟨v, (cell_off (by decide)).trans q⟩, fun j x e => (cell_off (by omega)).trans (hb.st j x e), (cell_off (by decide)).trans hb.mu, (World.cell?_of_block (set_other (hne _ (.inl rfl)))).trans h.x, h.dv.kept (by rw [set_size]; exact Nat.le_refl _) (fun x q => set_other (hne x (.inr q))), ok, wk, hb.z, ⟨hb.ge.1, fun x q => (h.fr x q).2.2⟩, fun q => hne B q rfl, h.nX⟩
/-- What moves leaves. -/
def MvFin (N B : Nat) (b : Bn) (dc : DvN) (m : Nat) (w w' : World) : Prop := ∃ X2 D2 vs2, BdAt N B { b with X := X2, D := D2, d := mvD dc, vs := vs2 } m w' ∧ Below N w w'
def MvPost (N B : Nat) (b : Bn) (keep : Int) (junk : ByteArray) (m : Nat) (w : World) (e' : Ending) (w' : World) : Prop :=
  e' = .returned (.bool true) ∧ MvFin N B b (dCrash b.d keep (lst junk)) m w w'
set_option maxRecDepth 100000 in
set_option maxHeartbeats 8000000 in
theorem moves_any {N B : Nat} {b : Bn} {m : Nat} {w : World} (h : BdAt N B b m w) (hN : N ≤ w.heap.size) (keep : Int) (junk : ByteArray) (hm : m ≤ 1000000000000000) :
    Calls Tryz.prog 24 #[.pointer (some ⟨B, 0, none⟩), .int .i64 keep, .string junk] w (MvPost N B b keep junk m w) := by
  have c0 := h.c0
  have HC := hide (cCrash_any b.X b.D b.d b.vs keep junk w h.x h.dv h.ok)
  have hok1 : DvOK (dCrash b.d keep (lst junk)) ∧ (dCrash b.d keep (lst junk)).wk = b.d.wk + 1 := crash_ok b.d keep (lst junk) h.ok h.wk hm
  have HD1 : Hid (∀ w' vs', DvAt b.D (dCrash b.d keep (lst junk)) vs' w' → DFr b.D b.vs vs' w w' → BdAt N B { b with d := dCrash b.d keep (lst junk), vs := vs' } (m + 1) w' ∧ Below N w w') := fun w' vs' a f => by
    have hB := f.chg.other B h.lt (fun q => h.nB (.inr q))
    exact ⟨h.turn f.below.size hN hB (f.chg.other _ h.xlt h.nX) a hok1.1 (by rw [hok1.2]; have := h.wk; omega) (dfr_vo f), f.chg.below hN (fun x q => h.ge.2 x (.inr q))⟩
  have htr : (dCrash b.d keep (lst junk)).tr = 0 := rfl
  unfold MvPost
  have HM := hide (rfl : m = m)
  clear h hok1
  generalize dCrash b.d keep (lst junk) = dc at *
  have HTr := hide htr
  have HNn := hide hN
  clear htr
  go_enter Tryz.func24, Tryz.ntmps24
  go_wp2_with fail
  refine (unhide HC).mono ?_
  rintro e w1 ⟨rfl, vs1, hd1, hf1⟩
  obtain ⟨hb1, hl1⟩ := HD1.out w1 vs1 hd1 hf1
  have HB1 := hide hb1; have HL1 := hide hl1
  have hz1 := hl1.size
  have HND := hide (newDevice_any w1)
  clear hd1 hf1 hb1 hl1 HC HD1 c0
  go_wp2_with fail
  refine (unhide HND).mono ?_
  rintro e w2 ⟨rfl, hd2, hx2, hs2, hb2⟩
  have hM : MvAt N B { b with d := dc, vs := vs1 } (w1.heap.size + 1) w1.heap.size dv0 nilV (m + 1) w2 := by
    have hN1 : N ≤ w1.heap.size := by omega
    have q := HB1.out
    refine ⟨q.up hN1 hb2, hx2, hd2, fun x c => ?_, fun c => ?_⟩
    · have hx : w1.heap.size ≤ x := by
        rcases c with c | c | ⟨i, _, c⟩
        · omega
        · omega
        · cases c
      exact ⟨fun e => by have := q.has e; omega, by have := q.lt; omega, by omega⟩
    · rcases c with c | ⟨i, _, c⟩
      · omega
      · cases c
  have hBe : Below N w w2 := HL1.out.trans (hb2.mono (by omega))
  have HI0 : Hid (∃ vs vs2, MvAt N B { b with d := dc, vs := vs } (w1.heap.size + 1) w1.heap.size (mvI dc 0) vs2 (m + 1) w2 ∧ Below N w w2) := ⟨vs1, nilV, hM, hBe⟩
  clear hd2 hx2 hb2 hM hBe HND HB1
  go_upto_region 6 with fail
  go_loopw [8] (fun i wr => ∃ j : Nat, j ≤ 2 ∧ i = .int .i64 j ∧ Hid (∃ vs vs2, MvAt N B { b with d := dc, vs := vs } (w1.heap.size + 1) w1.heap.size (mvI dc j) vs2 (m + 1) wr ∧ Below N w wr)) (fun i _ => 2 - (intOf i).toNat)
  case atStart => exact ⟨0, by decide, rfl, HI0.out⟩
  case round =>
    obtain ⟨j, hj, rfl, HI⟩ := hrel
    obtain ⟨vs, vs2, hM, hbw⟩ := HI.out
    have c0 := hM.bd.c0
    by_cases hlt : j < 2
    · have hlt' : (j : Int) < 2 := by omega
      have hzw := hbw.size
      have hrd : dRead dc (j : Int) = (dc.b j, 0, dc) := read_calm HTr.out hlt
      have hlen : (dc.b j).length ≤ 1500 := hM.bd.dv.len j hlt
      have HC := hide (cRead_any b.X b.D dc vs (j : Int) wr hM.bd.x hM.bd.dv)
      rw [hrd] at HC
      simp only at HC
      have HM0 := hide hM; have HBw := hide hbw; have HLen := hide hlen
      clear hM hbw hrd hlen HI HI0
      go_wp2_with fail
      refine (unhide HC).mono ?_
      rintro e w3 ⟨rfl, vs3, hd3, hf3⟩
      obtain ⟨hM3, hb3⟩ := HM0.out.old (by have := HNn.out; omega) hd3 hf3 HM0.out.bd.ok HM0.out.bd.wk
      have hz3 := hb3.size
      have hl2 : ((mvI dc j).b j).length + (dc.b j).length ≤ 1500 := by rw [mvI_nil dc j j (Nat.le_refl _)]; have := HLen.out; simpa using this
      have had := add_calm (mvI_tr dc j) hlt hl2
      have hcp := cp_calm (mvI_tr dc j) hlt hl2
      have HC3 := hide (cAdd_any (w1.heap.size + 1) w1.heap.size (mvI dc j) vs2 (j : Int) (bya (dc.b j)) w3 hM3.x hM3.dv (by rw [bya_size]; have := HLen.out; omega))
      have HM3 := hide hM3; have HB3 := hide hb3
      rw [lst_bya] at HC3
      clear hd3 hf3 hM3 hb3 HC HM0
      go_wp2_with fail
      refine (unhide HC3).mono ?_
      rintro e w4 ⟨rfl, vs4, hd4, hf4⟩
      obtain ⟨hM4, hb4⟩ := HM3.out.new (by have := HNn.out; omega) hd4 hf4
      have hz4 := hb4.size
      have HC4 := hide (cSync_any (w1.heap.size + 1) w1.heap.size (dAdd (mvI dc j) (j : Int) (dc.b j)).2 vs4 (j : Int) w4 hM4.x hM4.dv)
      rw [hcp] at HC4
      rw [had]
      simp only at HC4 ⊢
      have HM4 := hide hM4; have HB4 := hide hb4
      clear hd4 hf4 hM4 hb4 HC3 HM3 had hcp hl2
      go_wp2_with fail
      refine (unhide HC4).mono ?_
      rintro e w5 ⟨rfl, vs5, hd5, hf5⟩
      obtain ⟨hM5, hb5⟩ := HM4.out.new (by have := HNn.out; omega) hd5 hf5
      have HN : Hid (∃ vs vs2, MvAt N B { b with d := dc, vs := vs } (w1.heap.size + 1) w1.heap.size (mvI dc (j + 1)) vs2 (m + 1) w5 ∧ Below N w w5) := ⟨vs3, vs5, hM5, ((HBw.out.trans HB3.out).trans HB4.out).trans hb5⟩
      clear hd5 hf5 hM5 hb5 HC4 HM4 c0
      go_wp2_with fail
      exact ⟨⟨j + 1, by omega, by go_num, HN.out⟩, by simp [intOf]; omega⟩
    · have hlt' : ¬ (j : Int) < 2 := by omega
      obtain rfl : j = 2 := by omega
      have f0 := hM.bd.fz 0
      obtain ⟨W, hW⟩ : ∃ W, W = wr.setCell ⟨B, 0, none⟩ (.pointer (some ⟨w1.heap.size + 1, 0, none⟩)) := ⟨_, rfl⟩
      have hfin : BdAt N B { b with X := w1.heap.size + 1, D := w1.heap.size, d := mvD dc, vs := vs2 } (m + 1) W := by
        rw [hW]
        exact hM.put (mvI_ok dc 2) (by have := mvI_wk dc 2; rw [this]; omega)
      have HF : Hid (MvFin N B b dc m w W) := by
        refine ⟨_, _, _, ⟨hfin.lt, hfin.fz, hfin.c0, hfin.c1, hfin.st, hfin.mu, hfin.x, hfin.dv, hfin.ok, ?_, hfin.z, hfin.ge, hfin.nB, hfin.nX⟩, ?_⟩
        · have e : (mvD dc).wk = 0 := mvI_wk dc 2
          show 0 ≤ (mvD dc).wk ∧ (mvD dc).wk ≤ (m : Int)
          rw [e]
          omega
        · rw [hW]
          exact hbw.setCell (p := ⟨B, 0, none⟩) hM.bd.ge.1 _
      have HW := hide hW
      clear hM hbw hfin hW HI HI0
      go_upto_region 14 with fail
      rw [← HW.out]
      go_wp2_with fail
      go_ret
      exact ⟨rfl, HF.out⟩
end Go.Proofs.YtmmflekajbeamaaGreatDoor

namespace Go.Proofs.YtmmflekajbeamaaGreatDoor
open Go.RowKit

set_option maxRecDepth 100000 in
set_option maxHeartbeats 1000000 in
theorem cribSeal_any (kind : Int) (p : ByteArray) (w : World) :
    Calls Tryz.prog 30 #[.int .i64 kind, .string p] w (SealPost kind p w) := by
  have H := hide (frSeal_any kind p w)
  go_enter Tryz.func30, Tryz.ntmps30
  go_wp2_with fail
  refine (unhide H).mono ?_
  intro e w1 hp
  obtain ⟨D, n, rfl⟩ := hp.form
  have HP := hide hp
  clear hp
  go_wp2_with fail
  go_ret2
  exact HP.out

end Go.Proofs.YtmmflekajbeamaaGreatDoor

namespace Go.Proofs.YtmmflekajbeamaaGreatDoor
open Go.RowKit Go.Maps Go.WideMaps

/-- What a step leaves. -/
def FsPost (N B : Nat) (m k : Nat) (w : World) (e' : Ending) (w' : World) : Prop := e' = .returned (.bool true) ∧ ∃ b' oe', BnAt N B b' oe' (m + 3) (k + 8004) w' ∧ Below N w w'
theorem runs_any {N B : Nat} {b : Bn} {oe : Option En} {m k : Nat} {w : World} (h : BnAt N B b oe m k w) (hN : N ≤ w.heap.size) (h0 : 0 < N) (ht : Tab w) (hk : k ≤ 99999900000) (n : Nat) (hn : n ≤ 2000) :
    Calls Tryz.prog 11 #[.pointer (some ⟨B, 0, none⟩), .int .i64 (n : Int)] w (FsPost N B m k w) := by
  cases oe with
  | none =>
    refine (runs_nil h n).mono ?_
    rintro e' w' ⟨rfl, rfl⟩
    exact ⟨rfl, b, none, h.more (by omega) (by omega), Below.refl _ _⟩
  | some e =>
    by_cases ho : overE e.g b.d.wk = true
    · refine (runs_over h ht hk n hn ho).mono ?_
      rintro e' w' ⟨rfl, hb⟩
      exact ⟨rfl, b, some e, (h.up hN hb).more (by omega) (by omega), hb.mono hN⟩
    · refine (runs_ok h hN h0 ht hk n hn (by simpa using ho)).mono ?_
      rintro e' w' ⟨rfl, m1, v1, hb, hl⟩
      exact ⟨rfl, _, _, hb.more (by omega) (Nat.le_refl _), hl⟩
theorem laid_all {N B : Nat} {b : Bn} {oe : Option En} {m k : Nat} {w : World} (h : BnAt N B b oe m k w) (hN : N ≤ w.heap.size) (ht : Tab w) (hk : k ≤ 99999900000) (c : Bool) :
    Calls Tryz.prog 23 #[.pointer (some ⟨B, 0, none⟩), .bool c] w fun e' w' => ∃ d, e' = .returned (.tuple #[.bool d, .bool true]) ∧ FsPost N B m k w (.returned (.bool true)) w' := by
  cases oe with
  | none =>
    refine (laid_nil h c).mono ?_
    rintro e' w' ⟨rfl, rfl⟩
    exact ⟨_, rfl, rfl, b, none, h.more (by omega) (by omega), Below.refl _ _⟩
  | some e =>
    refine (laid_any h hN ht hk c).mono ?_
    rintro e' w' ⟨rfl, m1, v1, vs', hb, hl⟩
    exact ⟨_, rfl, rfl, _, _, hb.more (by omega) (by omega), hl⟩
theorem started_all {N B : Nat} {b : Bn} {m k : Nat} {w : World} (h : BdAt N B b m w) (hN : N ≤ w.heap.size) (h0 : 0 < N) (ht : Tab w) (hm : m ≤ 1000000000000000) (hk : 1500 ≤ k) :
    Calls Tryz.prog 25 #[.pointer (some ⟨B, 0, none⟩)] w (FsPost N B m k w) := by
  refine (started_any h hN h0 ht hm).mono ?_
  rintro e' w' ⟨rfl, vs', oe, hb, hl, _⟩
  exact ⟨rfl, _, oe, hb.more (by omega) (by omega), hl⟩
/-- A step of a script. -/
def spC (kd a b : Int) (s : ByteArray) : Array Value := #[.int .i64 kd, .int .i64 a, .int .i64 b, .string s]
/-- The box of a step. -/
structure Sbx (N B : Nat) (b : Bn) (oe : Option En) (m k : Nat) (kd a b' : Int) (s : ByteArray) (w W : World) : Prop where
  bn : BnAt N B b oe m k W
  bel : Below w.heap.size w W
  c0 : W.cell? ⟨w.heap.size, 0, none⟩ = some (.int .i64 kd)
  c1 : W.cell? ⟨w.heap.size, 1, none⟩ = some (.int .i64 a)
  c2 : W.cell? ⟨w.heap.size, 2, none⟩ = some (.int .i64 b')
  c3 : W.cell? ⟨w.heap.size, 3, none⟩ = some (.string s)
theorem sbx_new {N B : Nat} {b : Bn} {oe : Option En} {m k : Nat} {w : World} (h : BnAt N B b oe m k w) (hN : N ≤ w.heap.size) (kd a b' : Int) (s : ByteArray) (W : World) (e : W = w.alloc (.cells (spC kd a b' s) 36)) : Sbx N B b oe m k kd a b' s w W := by
  have r : W.heap[w.heap.size]? = some (.cells (spC kd a b' s) 36 (0, 0)) := by rw [e, _root_.Go.heap_alloc_new]
  have hb : Below w.heap.size w W := by rw [e]; exact (Below.refl _ _).alloc (Nat.le_refl _) _
  exact ⟨h.up hN hb, hb, cell_row r 0, cell_row r 1, cell_row r 2, cell_row r 3⟩
/-- Bounds of a step. -/
structure SbOK (kd a b : Int) (s : ByteArray) : Prop where
  kd : -9223372036854775808 ≤ kd ∧ kd ≤ 9223372036854775807
  a : -9223372036854775808 ≤ a ∧ a ≤ 9223372036854775807
  b : -9223372036854775808 ≤ b ∧ b ≤ 9223372036854775807
  s : s.size ≤ 140737488351232
theorem FsPost.from {N B m k : Nat} {w w1 w2 : World} {e : Ending} (hN : N ≤ w.heap.size) (hb : Below w.heap.size w w1) (h : FsPost N B m k w1 e w2) : FsPost N B m k w e w2 := by
  obtain ⟨he, b', oe', a, c⟩ := h
  exact ⟨he, b', oe', a, (hb.mono hN).trans c⟩
theorem pickI_ex (c n : Int) (hn : 0 < n) : ∃ j : Nat, pickI c n = (j : Int) ∧ (j : Int) < n := by
  have hb := pickI_bd c n hn
  exact ⟨(pickI c n).toNat, by omega, by omega⟩
set_option maxRecDepth 100000 in
set_option maxHeartbeats 4000000 in
theorem step0 {N B : Nat} {b : Bn} {oe : Option En} {m k : Nat} {w : World} (h : BnAt N B b oe m k w) (hN : N ≤ w.heap.size) (h0 : 0 < N) (ht : Tab w) (hk : k ≤ 99999900000) (kd a b' kinds : Int) (s : ByteArray) (ok : SbOK kd a b' s) (hki : 0 < kinds ∧ kinds ≤ 9) (hkd : pickI kd kinds = 0) :
    Calls Tryz.prog 10 #[.pointer (some ⟨B, 0, none⟩), .agg (spC kd a b' s), .int .i64 kinds] w (FsPost N B m k w) := by
  obtain ⟨W, hW⟩ : ∃ W, W = w.alloc (.cells (spC kd a b' s) 36) := ⟨_, rfl⟩
  have hX := sbx_new h hN kd a b' s W hW
  have HW := hide hW
  have c0 := hX.c0
  have c1 := hX.c1
  have HP := hide (fun w' => pick_any kd kinds w' ok.kd.1 ok.kd.2 hki.1 (by omega))
  rw [hkd] at HP
  have HPa := hide (fun w' => pick_any a 300 w' ok.a.1 ok.a.2 (by decide) (by decide))
  obtain ⟨n, hn, hn3⟩ := pickI_ex a 300 (by decide)
  rw [hn] at HPa
  have hNW : N ≤ W.heap.size := Nat.le_trans hN hX.bel.size
  have HR := hide (runs_any hX.bn hNW h0 (ht.below h0 (hX.bel.mono hN)) hk n (by omega))
  have HFr : Hid (∀ e w', FsPost N B m k W e w' → FsPost N B m k w e w') := fun e w' q => q.from hN hX.bel
  clear h hW hX ok hki hkd ht hk hn hn3
  generalize spC kd a b' s = SC at *
  go_enter Tryz.func10, Tryz.ntmps10
  go_upto_region 1 with fail
  rw [← HW.out]
  go_wp2_with fail
  refine (unhide HP _).mono ?_
  rintro e w' ⟨rfl, hw⟩
  obtain rfl := hw.symm
  go_wp2_with fail
  refine (unhide HPa _).mono ?_
  rintro e w' ⟨rfl, hw⟩
  obtain rfl := hw.symm
  go_wp2_with fail
  refine (unhide HR).mono ?_
  intro e w1 hp
  have he := hp.1
  subst he
  have HF := hide (HFr.out _ _ hp)
  clear hp HR
  go_wp2_with fail
  go_ret
  exact HF.out
set_option maxRecDepth 100000 in
set_option maxHeartbeats 4000000 in
theorem step12 {N B : Nat} {b : Bn} {oe : Option En} {m k : Nat} {w : World} (h : BnAt N B b oe m k w) (hN : N ≤ w.heap.size) (h0 : 0 < N) (ht : Tab w) (hk : k ≤ 99999900000) (kd a b' kinds : Int) (s : ByteArray) (ok : SbOK kd a b' s) (hki : 0 < kinds ∧ kinds ≤ 9) (c : Bool) (hkd : pickI kd kinds = if c = true then 2 else 1) :
    Calls Tryz.prog 10 #[.pointer (some ⟨B, 0, none⟩), .agg (spC kd a b' s), .int .i64 kinds] w (FsPost N B m k w) := by
  obtain ⟨W, hW⟩ : ∃ W, W = w.alloc (.cells (spC kd a b' s) 36) := ⟨_, rfl⟩
  have hX := sbx_new h hN kd a b' s W hW
  have HW := hide hW
  have c0 := hX.c0
  have HP := hide (fun w' => pick_any kd kinds w' ok.kd.1 ok.kd.2 hki.1 (by omega))
  rw [hkd] at HP
  have hNW : N ≤ W.heap.size := Nat.le_trans hN hX.bel.size
  have HR := hide (laid_all hX.bn hNW (ht.below h0 (hX.bel.mono hN)) hk c)
  have HFr : Hid (∀ e w', FsPost N B m k W e w' → FsPost N B m k w e w') := fun e w' q => q.from hN hX.bel
  clear h hW hX ok hki hkd ht hk
  generalize spC kd a b' s = SC at *
  cases c with
  | false =>
    rw [if_neg (by decide)] at HP
    go_enter Tryz.func10, Tryz.ntmps10
    go_upto_region 1 with fail
    rw [← HW.out]
    go_wp2_with fail
    refine (unhide HP _).mono ?_
    rintro e w' ⟨rfl, hw⟩
    obtain rfl := hw.symm
    go_wp2_with fail
    refine (unhide HR).mono ?_
    rintro e w1 ⟨d, rfl, hp⟩
    have HF := hide (HFr.out _ _ hp)
    clear hp HR
    go_wp2_with fail
    go_ret
    exact HF.out
  | true =>
    rw [if_pos rfl] at HP
    go_enter Tryz.func10, Tryz.ntmps10
    go_upto_region 1 with fail
    rw [← HW.out]
    go_wp2_with fail
    refine (unhide HP _).mono ?_
    rintro e w' ⟨rfl, hw⟩
    obtain rfl := hw.symm
    go_wp2_with fail
    refine (unhide HR).mono ?_
    rintro e w1 ⟨d, rfl, hp⟩
    have HF := hide (HFr.out _ _ hp)
    clear hp HR
    go_wp2_with fail
    go_ret
    exact HF.out
set_option maxRecDepth 100000 in
set_option maxHeartbeats 4000000 in
theorem step3 {N B : Nat} {b : Bn} {oe : Option En} {m k : Nat} {w : World} (h : BnAt N B b oe m k w) (hN : N ≤ w.heap.size) (h0 : 0 < N) (ht : Tab w) (hm : m ≤ 100000000000000) (hk : 1500 ≤ k) (kd a b' kinds : Int) (s : ByteArray) (ok : SbOK kd a b' s) (hki : 0 < kinds ∧ kinds ≤ 9) (hkd : pickI kd kinds = 3) :
    Calls Tryz.prog 10 #[.pointer (some ⟨B, 0, none⟩), .agg (spC kd a b' s), .int .i64 kinds] w (FsPost N B m k w) := by
  obtain ⟨W, hW⟩ : ∃ W, W = w.alloc (.cells (spC kd a b' s) 36) := ⟨_, rfl⟩
  have hX := sbx_new h hN kd a b' s W hW
  have HW := hide hW
  have c0 := hX.c0
  have c1 := hX.c1
  have c3 := hX.c3
  have HP := hide (fun w' => pick_any kd kinds w' ok.kd.1 ok.kd.2 hki.1 (by omega))
  rw [hkd] at HP
  have hNW : N ≤ W.heap.size := Nat.le_trans hN hX.bel.size
  have HM := hide (moves_any hX.bn.1 hNW a s (by omega))
  have HS : Hid (∀ b1 w', BdAt N B b1 m w' → Below N W w' → Calls Tryz.prog 25 #[.pointer (some ⟨B, 0, none⟩)] w' (FsPost N B m k w')) := fun b1 w' q hb => started_all q (Nat.le_trans hNW hb.size) h0 (ht.below h0 ((hX.bel.mono hN).trans hb)) (by omega) hk
  have HBl := hide (hX.bel.mono hN)
  clear h hW hX ok hki hkd ht hk
  generalize spC kd a b' s = SC at *
  go_enter Tryz.func10, Tryz.ntmps10
  go_upto_region 1 with fail
  rw [← HW.out]
  go_wp2_with fail
  refine (unhide HP _).mono ?_
  rintro e w' ⟨rfl, hw⟩
  obtain rfl := hw.symm
  go_wp2_with fail
  refine (unhide HM).mono ?_
  rintro e w1 ⟨rfl, X2, D2, vs2, hb1, hl1⟩
  have HR := hide (HS.out _ _ hb1 hl1)
  have HL1 := hide hl1
  clear hb1 hl1 HM HS
  go_wp2_with fail
  refine (unhide HR).mono ?_
  rintro e w2 ⟨rfl, b2, oe2, hb2, hl2⟩
  have HF : Hid (FsPost N B m k w (.returned (.bool true)) w2) := ⟨rfl, b2, oe2, hb2, (HBl.out.trans HL1.out).trans hl2⟩
  clear hb2 hl2 HR
  go_wp2_with fail
  go_ret
  exact HF.out
set_option maxRecDepth 100000 in
set_option maxHeartbeats 4000000 in
theorem step4 {N B : Nat} {b : Bn} {oe : Option En} {m k : Nat} {w : World} (h : BnAt N B b oe m k w) (hN : N ≤ w.heap.size) (h0 : 0 < N) (ht : Tab w) (hm : m ≤ 100000000000000) (hk : 1500 ≤ k) (kd a b' kinds : Int) (s : ByteArray) (ok : SbOK kd a b' s) (hki : 0 < kinds ∧ kinds ≤ 9) (hkd : pickI kd kinds = 4) :
    Calls Tryz.prog 10 #[.pointer (some ⟨B, 0, none⟩), .agg (spC kd a b' s), .int .i64 kinds] w (FsPost N B m k w) := by
  obtain ⟨W, hW⟩ : ∃ W, W = w.alloc (.cells (spC kd a b' s) 36) := ⟨_, rfl⟩
  have hX := sbx_new h hN kd a b' s W hW
  have HW := hide hW
  have c0 := hX.c0
  have HP := hide (fun w' => pick_any kd kinds w' ok.kd.1 ok.kd.2 hki.1 (by omega))
  rw [hkd] at HP
  have hNW : N ≤ W.heap.size := Nat.le_trans hN hX.bel.size
  have HR := hide (started_all hX.bn.1 hNW h0 (ht.below h0 (hX.bel.mono hN)) (by omega) hk)
  have HFr : Hid (∀ e w', FsPost N B m k W e w' → FsPost N B m k w e w') := fun e w' q => q.from hN hX.bel
  clear h hW hX ok hki hkd ht hk
  generalize spC kd a b' s = SC at *
  go_enter Tryz.func10, Tryz.ntmps10
  go_upto_region 1 with fail
  rw [← HW.out]
  go_wp2_with fail
  refine (unhide HP _).mono ?_
  rintro e w' ⟨rfl, hw⟩
  obtain rfl := hw.symm
  go_wp2_with fail
  refine (unhide HR).mono ?_
  intro e w1 hp
  have he := hp.1
  subst he
  have HF := hide (HFr.out _ _ hp)
  clear hp HR
  go_wp2_with fail
  go_ret
  exact HF.out
end Go.Proofs.YtmmflekajbeamaaGreatDoor
