/-
  Faithful: an engine anew, where the machine is (started).
  A hand of the law: an engine of the program and the document's, over a pair of devices; what a call of both leaves.
  Calls of a hand, the program's and then the document's: Persist, Compact, Run.
  Faithful: Persist or Compact of the bench (laid).
  Faithful: the device crashes, and what it holds is copied to a new one (moves).
-/
import Derived.Test.YtmmflekajbeamabGreatDoorW33
import Derived.Test.YtmmflekajbeamabGreatDoorW24
import Derived.Test.YtmmflekajbeamabGreatDoorW32
import Derived.Test.YtmmflekajbeamabGreatDoorW17
namespace Go.Proofs.YtmmflekajbeamabGreatDoor
open Go.RowKit Go.Maps Go.WideMaps

/-- What a start over the bench's device comes to. -/
def opB (b : Bn) : Int × EgN × DvN := openE dOps (newG (wrap64 (b.d.wk + 1)) b.z) (engD b.d)
/-- What started leaves. -/
def SdFin (N B : Nat) (b : Bn) (m : Nat) (R : Int × EgN × DvN) (w w' : World) : Prop :=
  ∃ vs' oe, BnAt N B { b with d := R.2.2, vs := vs' } oe (m + 1) 1500 w' ∧ FrB B b none { b with d := R.2.2, vs := vs' } oe w w' ∧ ((R.1 = 0 ∧ ∃ X E m1 v1, oe = some ⟨X, E, R.2.1, m1, v1⟩) ∨ (R.1 ≠ 0 ∧ oe = none))
def SdPost (N B : Nat) (b : Bn) (m : Nat) (w : World) (e' : Ending) (w' : World) : Prop := e' = .returned (.bool true) ∧ SdFin N B b m (opB b) w w'
theorem opB_ok {N B : Nat} {b : Bn} {m : Nat} {w : World} (h : BdAt N B b m w) (hm : m ≤ 1000000000000000) : DvOK (opB b).2.2 ∧ (opB b).2.2.wk = b.d.wk + 1 ∧ isCd (opB b).1 ∧ (opB b).2.1.z = b.z ∧ GOK (opB b).2.1 1500 := by
  have hw : wrap64 (b.d.wk + 1) = b.d.wk + 1 := by have := h.wk; unfold wrap64; omega
  have e1 : DvOK (engD b.d) := h.ok
  have e2 : (engD b.d).wk = b.d.wk + 1 := hw
  exact ⟨open_clo clo_ok _ _ e1, open_clo (clo_wk (b.d.wk + 1)) _ _ e2, open_code _ _ _, openE_z _ _ _, GOK.open h.z _ _ h.dv.len⟩
theorem st_start {N B : Nat} {b : Bn} {m : Nat} {w w1 w2 : World} {vs' : Nat → Value} (h : BdAt N B b m w) (hN : N ≤ w.heap.size) (hm : m ≤ 1000000000000000) (hw1 : w1 = w.setCell ⟨B, 1, none⟩ (.pointer none)) (hd : DvAt b.D (opB b).2.2 vs' w2) (hc : Chg (dHas b.D b.vs) w1.drew w2) (vo : ∀ x, dHas b.D vs' x → dHas b.D b.vs x ∨ w1.drew.heap.size ≤ x) :
    BdAt N B { b with d := (opB b).2.2, vs := vs' } (m + 1) w2 ∧ w2.cell? ⟨B, 1, none⟩ = some (.pointer none) ∧ FrB B b none { b with d := (opB b).2.2, vs := vs' } none w w2 := by
  obtain ⟨q1, q2, _, _, _⟩ := opB_ok h hm
  have hs : w1.drew.heap.size = w.heap.size := by rw [hw1]; exact set_size
  have h1 : BdAt N B b m w1 := by rw [hw1]; exact h.setE _
  have hB : w2.heap[B]? = w1.heap[B]? := hc.other B (by rw [hs]; exact h.lt) (fun q => h.nB (.inr q))
  have hX : w2.heap[b.X]? = w1.heap[b.X]? := hc.other b.X (by rw [hs]; exact h.xlt) h.nX
  have hs1 : w1.heap.size = w.heap.size := hs
  obtain ⟨v, hv⟩ := h.c1
  refine ⟨h1.turn (by have := hc.size; rw [hs] at this; omega) (by omega) hB hX hd q1 ⟨by rw [q2]; have := h.wk.1; omega, by rw [q2]; have := h.wk.2; omega⟩ (fun x q => by rw [hs1, ← hs]; exact vo x q), ?_, ?_⟩
  · rw [World.cell?_of_block hB, hw1]
    exact World.cell?_setCell_same _ _ _ hv
  · have hb1 : Chg (ownB B b none) w w1.drew := by
      rw [hw1]
      have q := (Chg.set w B 1 (.pointer none)).weak (G := ownB B b none) (fun _ q => .inl (.inl q))
      exact ⟨q.os, q.tape, q.output, q.size, q.other⟩
    refine ⟨hb1.trans (F1 := dHas b.D b.vs) (fun _ q => .inl (.inr (.inl (.inr q)))) hc, fun x q => ?_⟩
    rcases q with q | (q | q) | ⟨_, q, _⟩
    · exact .inl (.inl q)
    · exact .inl (.inr (.inl (.inl q)))
    · rcases vo x q with c | c
      · exact .inl (.inr (.inl (.inr c)))
      · rw [hs] at c; exact .inr c
    · cases q
set_option maxRecDepth 100000 in
set_option maxHeartbeats 8000000 in
theorem started_any {N B : Nat} {b : Bn} {m : Nat} {w : World} (h : BdAt N B b m w) (hN : N ≤ w.heap.size) (h0 : 0 < N) (ht : Tab w) (hm : m ≤ 1000000000000000) :
    Calls Tryz.prog 11 #[.pointer (some ⟨B, 0, none⟩)] w (SdPost N B b m w) := by
  obtain ⟨W, hW⟩ : ∃ W, W = w.setCell ⟨B, 1, none⟩ (.pointer none) := ⟨_, rfl⟩
  obtain ⟨v1, c1⟩ := h.c1
  have f1 := h.fz 1
  have hWd : BdAt N B b m W := by rw [hW]; exact h.setE _
  have hWs : W.heap.size = w.heap.size := by rw [hW]; exact set_size
  have hbW : Below N w W := by rw [hW]; exact (Below.refl N w).setCell (p := ⟨B, 1, none⟩) h.ge.1 _
  have c0 := hWd.c0
  have st := hWd.st
  have HC := hide (cStart_any b.X b.D b.d b.vs b.z W.drew hWd.x (hWd.dv.kept (Nat.le_refl _) (fun _ _ => rfl)) (ht.below h0 hbW.drew) h.z.len h.z.st)
  have HSs : Hid (∀ w2 vs', DvAt b.D (opB b).2.2 vs' w2 → Chg (dHas b.D b.vs) W.drew w2 → (∀ x, dHas b.D vs' x → dHas b.D b.vs x ∨ W.drew.heap.size ≤ x) → BdAt N B { b with d := (opB b).2.2, vs := vs' } (m + 1) w2 ∧ w2.cell? ⟨B, 1, none⟩ = some (.pointer none) ∧ FrB B b none { b with d := (opB b).2.2, vs := vs' } none w w2) := fun w2 vs' a c vo => st_start h hN hm hW a c vo
  have HOk := hide (opB_ok h hm)
  have hzl : b.z.length = 138 := h.z.len
  have szl := zlen b.z hzl
  have zz := zero34
  have eqs := eqS b.z hzl
  have HW := hide hW
  have hBl := h.lt
  have HXl := hide h.xlt
  clear h ht hWd hbW hW
  generalize hop : openE dOps (newG (wrap64 (b.d.wk + 1)) b.z) (engD b.d) = OP at *
  have hOP : opB b = OP := hop
  unfold SdPost
  rw [hOP] at HSs HOk ⊢
  clear hop hOP
  obtain ⟨n, g', d'⟩ := OP
  simp only at HC HSs HOk ⊢
  obtain ⟨z, hbz⟩ : ∃ z, z = b.z := ⟨_, rfl⟩
  rw [← hbz] at HC st hzl szl eqs
  have HBz : Hid (b.z = z) := hbz.symm
  clear hbz
  go_enter Tryz.func11, Tryz.ntmps11
  go_upto_region 2 with fail
  rw [← HW.out]
  clear c1 f1
  refine held_pick3 6 [0, 1, 2, 3, 4, 5, 6, 7] [8] 8 9 (fun w' => w'.cell? ⟨B, 0, none⟩ = some (.pointer (some ⟨b.X, 0, none⟩)) ∧ Hid (w'.rangeAt B 2 (z.map (Value.int .i64)))) (by kernel_rfl) (by kernel_rfl) (fun d _ _ _ _ h => by cases d <;> exact h) ⟨c0, st⟩ ?_
  iterate 7
    refine wpTakeI_step ?_ rfl rfl ?_ ?_
    rotate_left
    · rintro w' ⟨q0, q1⟩
      go_simp
      rfl
    go_simp
  refine ⟨_, .agg (S z), rfl, yieldsIf_load_mid rfl 25 _ rfl B 2 rfl (z.map (Value.int .i64)) _ (fun w' hS => hS.2.out) Tryz.underlying25 rfl szl, ?_⟩
  go_simp
  refine wpTakeI_nil ?_
  refine wpTailJ_step rfl rfl (fun K hK => ?_)
  go_simp
  refine (unhide HC).mono ?_
  rintro e w2 ⟨vs', hd2, hc2, vo2, hres⟩
  obtain ⟨hB2, hn2, hb2⟩ := HSs.out w2 vs' hd2 hc2 vo2
  have HB2 := hide hB2; have HBl := hide hb2
  have hz2 := hc2.size
  have hWd : W.drew.heap.size = W.heap.size := rfl
  rw [hWd, hWs] at hz2
  have hBf := hB2.fz 1
  have hst2 := hB2.st
  have HVo := hide vo2; have HC2 := hide hc2
  clear hd2 hc2 vo2 hB2 hb2 HC HSs
  rcases hres with ⟨hn, rfl⟩ | ⟨hn, X, E, m1, v1, hE, hX, rfl, hxa, hea, hef, hdx⟩
  · have HN := hide hn
    go_simp
    refine hK _ _ (fun h => absurd h (by decide)) ?_
    clear hK K
    refine wpTailJ_nil ?_
    repeat still_step
    refine wpStill_nil ?_
    have HFin : Hid (SdFin N B b m (n, g', d') w w2) := ⟨vs', none, ⟨HB2.out, fun _ => hn2, fun e q => by cases q⟩, HBl.out, .inr ⟨HN.out, rfl⟩⟩
    have hcd := HOk.out.2.2.1
    clear hst2 hBf hn2 HB2 HOk
    rcases hcd with q | q | q | q
    · exact absurd q HN.out
    all_goals
      have q' : n = _ := q
      clear q hn HN
      subst q'
      go_wp2_with fail
      go_ret
      exact ⟨rfl, HFin.out⟩
  · subst hn
    go_simp
    refine hK _ _ (fun h => absurd h (by decide)) ?_
    clear hK K
    refine wpTailJ_nil ?_
    repeat still_step
    refine wpStill_nil ?_
    obtain ⟨W3, hW3⟩ : ∃ W3, W3 = w2.setCell ⟨B, 1, none⟩ (.pointer (some ⟨X, 0, none⟩)) := ⟨_, rfl⟩
    rw [hWd, hWs] at hE hX hef
    have hB3 : BdAt N B { b with d := d', vs := vs' } (m + 1) W3 := by rw [hW3]; exact HB2.out.setE _
    have hXB : X ≠ B := by omega
    have hE3 : EbAt N B { b with d := d', vs := vs' } ⟨X, E, g', m1, v1⟩ 1500 W3 := by
      obtain ⟨_, _, _, o4, o5⟩ := HOk.out
      have oth : ∀ x, x ≠ B → W3.heap[x]? = w2.heap[x]? := fun x hx => by rw [hW3]; exact set_other hx
      refine ⟨?_, (World.cell?_of_block (oth _ hXB)).trans hxa, hea.eg.kept (fun x q => oth x (by have := (hef x q).1; omega)), o5, ?_, fun x q => ?_, fun q => ?_, fun q => (hef X q).2 rfl, fun x q1 q2 => ?_⟩
      · rw [hW3]; exact World.cell?_setCell_same _ _ _ hn2
      · exact o4
      · rcases q with q | q
        · have q' : x = X := q; omega
        · have := (hef x q).1; omega
      · rcases q with q | q
        · exact hXB q.symm
        · have := (hef B q).1; omega
      · rcases q1 with q1 | q1
        · have q1' : x = X := q1
          rcases q2 with q2 | q2
          · have q2' : x = b.X := q2
            have := HXl.out
            omega
          · exact hdx x q2 q1'
        · rcases q2 with q2 | q2
          · have q2' : x = b.X := q2
            have := HXl.out
            have := (hef x q1).1
            omega
          · exact hea.sep x q1 q2
    have HSt : Hid (∀ w', Below W3.heap.size W3 w' → Calls Tryz.prog 21 #[.pointer (some ⟨X, 0, none⟩)] w' fun e' w'' => e' = .returned (.agg (S z)) ∧ Below w'.heap.size w' w'') := fun w' hb => by
      have q := hE3.up hB3.lt hb
      have := cState_any X E b.D g' m1 v1 w' q.x q.eg
      rw [HOk.out.2.2.2.1, HBz.out] at this
      exact this
    have HW3 := hide hW3; have HB3 := hide hB3; have HE3 := hide hE3
    have HBl3 : Hid (FrB B b none { b with d := d', vs := vs' } (some ⟨X, E, g', m1, v1⟩) w W3) := by
      unfold Hid
      rw [hW3]
      refine HBl.out.at (Chg.set w2 B 1 _) (fun x q => ?_)
      rcases q with q | q | ⟨e', he', q⟩
      · exact .inl (.inl q)
      · exact .inl (.inr (.inl q))
      · cases he'
        rcases q with q | q
        · have q' : x = X := q; exact .inr (by omega)
        · exact .inr (hef x q).1
    have hs3 : W3.heap.size = w2.heap.size := by rw [hW3]; exact set_size
    have hB3l := hB3.lt
    have g1 := hB3.st
    clear hW3 hB3 hE3 hxa hea hef hdx hst2 HB2
    go_upto_region 8 with fail
    rw [← HW3.out]
    clear hn2 hBf
    go_wp2_with fail
    refine (unhide HSt _ (Below.refl _ _)).mono ?_
    rintro e w4 ⟨rfl, hb4⟩
    have hz4 := hb4.size
    obtain ⟨W5, hW5⟩ : ∃ W5, W5 = w4.alloc (.cells (S z) 25) := ⟨_, rfl⟩
    have hB5 : Below W3.heap.size W3 W5 := by rw [hW5]; exact hb4.alloc (by omega) _
    have r5 : RowI W5 w4.heap.size 25 z := by unfold RowI; rw [hW5, _root_.Go.heap_alloc_new]
    have g0 := range_row r5 0 138 (by omega)
    rw [List.drop_zero, List.take_of_length_le (by omega)] at g0
    have g2 : W5.rangeAt B 2 (z.map (Value.int .i64)) := fun j u q => (World.cell?_of_block (hB5.block B hB3l)).trans (by rw [← HBz.out] at q; exact g1 j u q)
    have HW5 := hide hW5; have HG0 := hide g0; have HG2 := hide g2; have HB5 := hide hB5
    clear hb4 hW5 hB5 r5 g0 g2 g1 HSt
    go_upto_region 9 with (refine wpList_store_S rfl _ _ rfl w4.heap.size rfl z rfl hzl (by rw [isRowB_alloc_at _ _ _ _ _ rfl]; simp [S_size, zeroZ]) _ (setRow_alloc_at _ _ _ _ _ rfl) ?_)
    rw [← HW5.out]
    refine wp_region_quiet_lit (by kernel_rfl) (by kernel_rfl) ?_
    repeat (first
      | (refine wpQuiet_load_Z rfl 25 _ rfl w4.heap.size 0 rfl z _ (range_drew HG0.out) Tryz.underlying25 rfl szl ?_)
      | (refine wpQuiet_load_Z rfl 25 _ rfl B 2 rfl z _ (range_drew HG2.out) Tryz.underlying25 rfl szl ?_)
      | quiet_step (fail))
    refine wpQuiet_nil ?_
    rintro _ ⟨nq, rfl⟩
    go_wp2_with fail
    go_ret
    have hBd : Below W3.heap.size W3 (W5.drewN nq) := below_drewN HB5.out _
    have hNw : N ≤ W3.heap.size := by omega
    exact ⟨rfl, vs', some ⟨X, E, g', m1, v1⟩, BnAt.up ⟨HB3.out, fun q => (by cases q), fun e q => by cases q; exact HE3.out⟩ hNw hBd, HBl3.out.up hBd, .inl ⟨rfl, X, E, m1, v1, rfl⟩⟩
end Go.Proofs.YtmmflekajbeamabGreatDoor

namespace Go.Proofs.YtmmflekajbeamabGreatDoor
open Go.RowKit Go.Maps Go.WideMaps

end Go.Proofs.YtmmflekajbeamabGreatDoor

namespace Go.Proofs.YtmmflekajbeamabGreatDoor
open Go.RowKit Go.Maps Go.WideMaps

set_option maxRecDepth 100000 in
set_option maxHeartbeats 2000000 in
theorem ePersist_over (E D : Nat) (g : EgN) (d : DvN) (m v vs : Nat → Value) (w : World) (h : EdAt E D g d m v vs w) (ho : overE g d.wk = true) :
    Calls Tryz.prog 35 #[.pointer (some ⟨E, 0, none⟩)] w (EPost E D m v vs w 17 g d) := by
  have HO := hide (isOver_any E D g d m v vs w h)
  rw [ho] at HO
  have HH := hide h
  clear h ho
  go_enter Tryz.func35, Tryz.ntmps35
  go_wp2_with fail
  refine (unhide HO).mono ?_
  rintro e w1 ⟨rfl, nq, rfl⟩
  clear HO
  go_wp2_with fail
  go_ret
  exact ⟨rfl, m, v, vs, HH.out.drewN nq, EdFr.of_below (below_drewN (Below.refl _ _) _)⟩
end Go.Proofs.YtmmflekajbeamabGreatDoor

namespace Go.Proofs.YtmmflekajbeamabGreatDoor
open Go.RowKit Go.Maps Go.WideMaps

/-- What a Persist (a Compact) of the bench's engine comes to. -/
def ldB (b : Bn) (g : EgN) (c : Bool) : Int × EgN × DvN := if overE g b.d.wk = true then (17, g, b.d) else if c = true then anewE dOps g b.d (1 - g.ar) else persE dOps g b.d
theorem ldB_ok {b : Bn} {g : EgN} {k : Nat} (hd : DvOK b.d) (hg : GOK g k) (c : Bool) : DvOK (ldB b g c).2.2 ∧ (ldB b g c).2.2.wk = b.d.wk ∧ (ldB b g c).2.1.z = g.z ∧ GOK (ldB b g c).2.1 k ∧ ((ldB b g c).1 = 17 ∨ isCd (ldB b g c).1) ∧ ((ldB b g c).1 = 0 → (ldB b g c).2.1.b 1 = []) := by
  unfold ldB
  split
  · exact ⟨hd, rfl, rfl, hg, .inl rfl, fun h => by cases h⟩
  · split
    · exact ⟨anew_clo clo_ok _ _ _ hd, anew_clo (clo_wk b.d.wk) _ _ _ rfl, anewE_z _ _ _ _, hg.anew _ (by omega), .inr (anew_code _ _ _ _), anew_wait _ _ _ _⟩
    · exact ⟨pers_clo clo_ok _ _ hd, pers_clo (clo_wk b.d.wk) _ _ rfl, persE_z _ _ _, hg.pers _, .inr (pers_code _ _ _), pers_wait _ _ _⟩
theorem persist_call {N B : Nat} {b : Bn} {e : En} {m k : Nat} {w : World} (h : BnAt N B b (some e) m k w) (ht : Tab w) (hk : k ≤ 99999900000) :
    Calls Tryz.prog 16 #[.pointer (some ⟨e.X, 0, none⟩)] w (EPost e.E b.D e.m e.v b.vs w (ldB b e.g false).1 (ldB b e.g false).2.1 (ldB b e.g false).2.2) := by
  have hE := h.2.2 e rfl
  refine cPersist_of e.X e.E w hE.x _ (fun e' w' q => ⟨_, q.1⟩) ?_
  unfold ldB
  by_cases ho : overE e.g b.d.wk = true
  · rw [if_pos ho]
    exact ePersist_over e.E b.D e.g b.d e.m e.v b.vs w h.ed ho
  · rw [if_neg ho, if_neg (by decide)]
    exact ePersist_any e.E b.D e.g b.d e.m e.v b.vs w h.ed ht (hE.ok.eg (by omega)) hE.ok.sz (by simpa using ho)
/-- The end of laid, behind the engine's call. -/
theorem ld_end {N B : Nat} {b : Bn} {e : En} {c : Bool} {m k : Nat} {w w1 : World} (h : BnAt N B b (some e) m k w) (hN : N ≤ w.heap.size) {m1 v1 vs' : Nat → Value} (a : EdAt e.E b.D (ldB b e.g c).2.1 (ldB b e.g c).2.2 m1 v1 vs' w1) (f : EdFr e.E b.D e.m e.v b.vs m1 v1 vs' w w1) : BnAt N B { b with d := (ldB b e.g c).2.2, vs := vs' } (some { e with g := (ldB b e.g c).2.1, m := m1, v := v1 }) m k w1 ∧ FrB B b (some e) { b with d := (ldB b e.g c).2.2, vs := vs' } (some { e with g := (ldB b e.g c).2.1, m := m1, v := v1 }) w w1 := by
  have hE := h.2.2 e rfl
  obtain ⟨q1, q2, q3, q4, _⟩ := ldB_ok h.1.ok hE.ok c
  obtain ⟨r1, r2, _, r4⟩ := h.eng hN a f q1 (by rw [q2]; exact h.1.wk) q4
  exact ⟨⟨r1, fun q => (by cases q), fun e' q => by cases q; exact r2 (q3.trans hE.z)⟩, r4⟩
end Go.Proofs.YtmmflekajbeamabGreatDoor

namespace Go.Proofs.YtmmflekajbeamabGreatDoor
open Go.RowKit Go.Maps Go.WideMaps

theorem calm_tick {d : DvN} (h : d.tr = 0) : d.tick = d := by
  obtain ⟨b, n, tr, wk⟩ := d
  have h' : tr = 0 := h
  subst h'
  rfl
theorem read_calm {d : DvN} (h : d.tr = 0) {i : Nat} (hi : i < 2) : dRead d (i : Int) = (d.b i, 0, d) := by
  unfold dRead
  rw [if_neg (by omega), if_neg (by omega), calm_tick h]
  rfl
/-- A device with the bytes s laid down in the area i of another. -/
def cpB (d : DvN) (i : Nat) (s : List UInt8) : DvN := { d with b := upd d.b i (d.b i ++ s), n := upd d.n i (d.b i ++ s).length }
theorem add_calm {d : DvN} (h : d.tr = 0) {i : Nat} (hi : i < 2) {s : List UInt8} (hs : (d.b i).length + s.length ≤ 1500) : dAdd d (i : Int) s = (0, { d with b := upd d.b i (d.b i ++ s) }) := by
  unfold dAdd
  rw [if_neg (by omega), if_neg (by omega), if_neg (by rw [Int.toNat_natCast]; omega), calm_tick h]
  rfl
theorem sync_calm {d : DvN} (h : d.tr = 0) {i : Nat} (hi : i < 2) : dSync d (i : Int) = (0, { d with n := upd d.n i (d.b i).length }) := by
  unfold dSync
  rw [if_neg (by omega), if_neg (by omega), calm_tick h]
  rfl
theorem cp_calm {d : DvN} (h : d.tr = 0) {i : Nat} (hi : i < 2) {s : List UInt8} (hs : (d.b i).length + s.length ≤ 1500) : (dSync (dAdd d (i : Int) s).2 (i : Int)) = (0, cpB d i s) := by
  rw [add_calm h hi hs]
  show dSync { d with b := upd d.b i (d.b i ++ s) } (i : Int) = _
  rw [sync_calm (d := { d with b := upd d.b i (d.b i ++ s) }) h hi]
  show ((0 : Int), ({ d with b := upd d.b i (d.b i ++ s), n := upd d.n i (upd d.b i (d.b i ++ s) i).length } : DvN)) = _
  rw [upd_at]
  rfl
/-- The new device behind i areas. -/
def mvI (d : DvN) : Nat → DvN
  | 0 => dv0
  | i + 1 => cpB (mvI d i) i (d.b i)
def mvD (d : DvN) : DvN := mvI d 2
theorem mvI_tr (d : DvN) : ∀ i, (mvI d i).tr = 0
  | 0 => rfl
  | i + 1 => mvI_tr d i
theorem mvI_wk (d : DvN) : ∀ i, (mvI d i).wk = 0
  | 0 => rfl
  | i + 1 => mvI_wk d i
theorem mvI_nil (d : DvN) : ∀ i j, i ≤ j → (mvI d i).b j = []
  | 0, j, _ => rfl
  | i + 1, j, h => by
    show upd (mvI d i).b i _ j = []
    rw [upd_ne _ _ _ _ (by omega)]
    exact mvI_nil d i j (by omega)
theorem mvI_ok (d : DvN) : ∀ i, DvOK (mvI d i)
  | 0 => fun _ _ => Nat.le_refl _
  | i + 1 => fun j hj => by
    show upd (mvI d i).n i ((mvI d i).b i ++ d.b i).length j ≤ (upd (mvI d i).b i ((mvI d i).b i ++ d.b i) j).length
    unfold upd
    split
    · exact Nat.le_refl _
    · exact mvI_ok d i j hj
theorem crN_ok (d : DvN) (keep : Int) (j : List UInt8) (h : DvOK d) : ∀ k, DvOK (crN d keep j k)
  | 0 => h
  | k + 1 => fun i hi => by
    have ih := crN_ok d keep j h k i hi
    unfold crN
    show upd (crN d keep j k).n k _ i ≤ (upd (crN d keep j k).b k _ i).length
    unfold upd
    split
    · exact Nat.le_refl _
    · exact ih
theorem crash_ok (d : DvN) (keep : Int) (j : List UInt8) (h : DvOK d) {m : Nat} (hw : 0 ≤ d.wk ∧ d.wk ≤ (m : Int)) (hm : m ≤ 1000000000000000) : DvOK (dCrash d keep j) ∧ (dCrash d keep j).wk = d.wk + 1 := by
  refine ⟨crN_ok d keep j h 2, ?_⟩
  show wrap64 (d.wk + 1) = d.wk + 1
  unfold wrap64
  omega
/-- Two devices: the bench's, and the new one. -/
structure MvAt (N B : Nat) (b : Bn) (X2 D2 : Nat) (d2 : DvN) (vs2 : Nat → Value) (m : Nat) (w : World) : Prop where
  bd : BdAt N B b m w
  x : XAt X2 D2 w
  dv : DvAt D2 d2 vs2 w
  fr : ∀ x, x = X2 ∨ dHas D2 vs2 x → ¬ b.has x ∧ x ≠ B ∧ N ≤ x
  nX : ¬ dHas D2 vs2 X2
theorem MvAt.xlt {N B : Nat} {b : Bn} {X2 D2 : Nat} {d2 : DvN} {vs2 : Nat → Value} {m : Nat} {w : World} (h : MvAt N B b X2 D2 d2 vs2 m w) : X2 < w.heap.size := block_lt_of_cell h.x
theorem dfr_vo {D : Nat} {vs vs' : Nat → Value} {w w' : World} (hf : DFr D vs vs' w w') : ∀ x, dHas D vs' x → dHas D vs x ∨ w.heap.size ≤ x := fun x q => by
  rcases q with q | ⟨i, hi, q⟩
  · exact .inl (.inl q)
  · exact (hf.own i hi x q).imp (fun c => .inr ⟨i, hi, c⟩) id
/-- A call of the old device. -/
theorem MvAt.old {N B : Nat} {b : Bn} {X2 D2 : Nat} {d2 d' : DvN} {vs2 vs' : Nat → Value} {m : Nat} {w w' : World} (h : MvAt N B b X2 D2 d2 vs2 m w) (hN : N ≤ w.heap.size) (hd : DvAt b.D d' vs' w') (hf : DFr b.D b.vs vs' w w') (ok : DvOK d') (wk : 0 ≤ d'.wk ∧ d'.wk ≤ (m : Int)) : MvAt N B { b with d := d', vs := vs' } X2 D2 d2 vs2 m w' ∧ Below N w w' := by
  have vo := dfr_vo hf
  have hB := hf.chg.other B h.bd.lt (fun q => h.bd.nB (.inr q))
  refine ⟨⟨h.bd.turn hf.below.size hN hB (hf.chg.other _ h.bd.xlt h.bd.nX) hd ok wk vo, (World.cell?_of_block (hf.chg.other X2 h.xlt (fun q => (h.fr X2 (.inl rfl)).1 (.inr q)))).trans h.x, h.dv.kept hf.below.size (fun x q => hf.chg.other x (h.dv.has q).2 (fun c => (h.fr x (.inr q)).1 (.inr c))), fun x q => ⟨fun c => ?_, (h.fr x q).2⟩, h.nX⟩, hf.chg.below hN (fun x q => h.bd.ge.2 x (.inr q))⟩
  rcases c with c | c
  · exact (h.fr x q).1 (.inl c)
  · rcases vo x c with e | e
    · exact (h.fr x q).1 (.inr e)
    · rcases q with q | q
      · have := h.xlt; omega
      · have := (h.dv.has q).2; omega
/-- A call of the new device. -/
theorem MvAt.new {N B : Nat} {b : Bn} {X2 D2 : Nat} {d2 d' : DvN} {vs2 vs' : Nat → Value} {m : Nat} {w w' : World} (h : MvAt N B b X2 D2 d2 vs2 m w) (hN : N ≤ w.heap.size) (hd : DvAt D2 d' vs' w') (hf : DFr D2 vs2 vs' w w') : MvAt N B b X2 D2 d' vs' m w' ∧ Below N w w' := by
  have vo := dfr_vo hf
  have oB := hf.chg.other B h.bd.lt (fun q => (h.fr B (.inr q)).2.1 rfl)
  have oX := hf.chg.other b.X h.bd.xlt (fun q => (h.fr _ (.inr q)).1 (.inl rfl))
  refine ⟨⟨h.bd.turn hf.below.size hN oB oX (h.bd.dv.kept hf.below.size (fun x q => hf.chg.other x (h.bd.dv.has q).2 (fun c => (h.fr x (.inr c)).1 (.inr q)))) h.bd.ok h.bd.wk (fun _ q => .inl q), (World.cell?_of_block (hf.chg.other X2 h.xlt h.nX)).trans h.x, hd, fun x q => ?_, fun q => ?_⟩, hf.chg.below hN (fun x q => (h.fr x (.inr q)).2.2)⟩
  · rcases q with q | q
    · exact h.fr x (.inl q)
    · rcases vo x q with e | e
      · exact h.fr x (.inr e)
      · refine ⟨fun c => ?_, by have := h.bd.lt; omega, by omega⟩
        have := h.bd.has c
        omega
  · rcases vo _ q with e | e
    · exact h.nX e
    · have := h.xlt; omega
/-- The new device in the bench. -/
theorem MvAt.put {N B : Nat} {b : Bn} {X2 D2 : Nat} {d2 : DvN} {vs2 : Nat → Value} {m : Nat} {w : World} (h : MvAt N B b X2 D2 d2 vs2 m w) (ok : DvOK d2) (wk : 0 ≤ d2.wk ∧ d2.wk ≤ (m : Int)) : BdAt N B { b with X := X2, D := D2, d := d2, vs := vs2 } m (w.setCell ⟨B, 0, none⟩ (.pointer (some ⟨X2, 0, none⟩))) := by
  have hb := h.bd
  obtain ⟨v, q⟩ := hb.c1
  have hne : ∀ x, x = X2 ∨ dHas D2 vs2 x → x ≠ B := fun x q => (h.fr x q).2.1
  refine ⟨by rw [set_size]; exact hb.lt, fun k => by rw [World.frozen?_setCell]; exact hb.fz k, World.cell?_setCell_same _ _ _ hb.c0, ⟨v, (cell_off (by decide)).trans q⟩, fun j x e => (cell_off (by omega)).trans (hb.st j x e), (cell_off (by decide)).trans hb.mu, (World.cell?_of_block (set_other (hne _ (.inl rfl)))).trans h.x, h.dv.kept (by rw [set_size]; exact Nat.le_refl _) (fun x q => set_other (hne x (.inr q))), ok, wk, hb.z, ⟨hb.ge.1, fun x q => (h.fr x q).2.2⟩, fun q => hne B q rfl, h.nX⟩
/-- What the copying leaves so far. -/
structure Mi (B : Nat) (b : Bn) (vs : Nat → Value) (X2 D2 : Nat) (vs2 : Nat → Value) (w wr : World) : Prop where
  chg : Chg (ownB B b none) w wr
  o1 : ∀ x, dHas b.D vs x → ownB B b none x ∨ w.heap.size ≤ x
  o2 : ∀ x, x = X2 ∨ dHas D2 vs2 x → w.heap.size ≤ x
theorem Mi.old {B : Nat} {b : Bn} {vs vs' : Nat → Value} {X2 D2 : Nat} {vs2 : Nat → Value} {w wr w' : World} (h : Mi B b vs X2 D2 vs2 w wr) (hf : DFr b.D vs vs' wr w') : Mi B b vs' X2 D2 vs2 w w' :=
  ⟨h.chg.trans (F1 := dHas b.D vs) h.o1 hf.chg, fun x q => (dfr_vo hf x q).elim (h.o1 x) (fun c => .inr (Nat.le_trans h.chg.size c)), h.o2⟩
theorem Mi.new {B : Nat} {b : Bn} {vs : Nat → Value} {X2 D2 : Nat} {vs2 vs' : Nat → Value} {w wr w' : World} (h : Mi B b vs X2 D2 vs2 w wr) (hf : DFr D2 vs2 vs' wr w') : Mi B b vs X2 D2 vs' w w' :=
  ⟨h.chg.trans (F1 := dHas D2 vs2) (fun x q => .inr (h.o2 x (.inr q))) hf.chg, h.o1, fun x q => q.elim (fun c => h.o2 x (.inl c)) (fun c => (dfr_vo hf x c).elim (fun e => h.o2 x (.inr e)) (Nat.le_trans h.chg.size))⟩
/-- What moves leaves. -/
def MvFin (N B : Nat) (b : Bn) (dc : DvN) (m : Nat) (w w' : World) : Prop := ∃ X2 D2 vs2, BdAt N B { b with X := X2, D := D2, d := mvD dc, vs := vs2 } m w' ∧ FrB B b none { b with X := X2, D := D2, d := mvD dc, vs := vs2 } none w w'
def MvPost (N B : Nat) (b : Bn) (keep : Int) (junk : ByteArray) (m : Nat) (w : World) (e' : Ending) (w' : World) : Prop :=
  e' = .returned (.bool true) ∧ MvFin N B b (dCrash b.d keep (lst junk)) m w w'
set_option maxRecDepth 100000 in
set_option maxHeartbeats 8000000 in
theorem moves_any {N B : Nat} {b : Bn} {m : Nat} {w : World} (h : BdAt N B b m w) (hN : N ≤ w.heap.size) (keep : Int) (junk : ByteArray) (hm : m ≤ 1000000000000000) :
    Calls Tryz.prog 10 #[.pointer (some ⟨B, 0, none⟩), .int .i64 keep, .string junk] w (MvPost N B b keep junk m w) := by
  have c0 := h.c0
  have HC := hide (cCrash_any b.X b.D b.d b.vs keep junk w h.x h.dv h.ok)
  have hok1 : DvOK (dCrash b.d keep (lst junk)) ∧ (dCrash b.d keep (lst junk)).wk = b.d.wk + 1 := crash_ok b.d keep (lst junk) h.ok h.wk hm
  have HD1 : Hid (∀ w' vs', DvAt b.D (dCrash b.d keep (lst junk)) vs' w' → DFr b.D b.vs vs' w w' → BdAt N B { b with d := dCrash b.d keep (lst junk), vs := vs' } (m + 1) w' ∧ Below N w w') := fun w' vs' a f => by
    have hB := f.chg.other B h.lt (fun q => h.nB (.inr q))
    exact ⟨h.turn f.below.size hN hB (f.chg.other _ h.xlt h.nX) a hok1.1 (by rw [hok1.2]; have := h.wk; omega) (dfr_vo f), f.chg.below hN (fun x q => h.ge.2 x (.inr q))⟩
  have htr : (dCrash b.d keep (lst junk)).tr = 0 := rfl
  unfold MvPost
  have HM := hide (rfl : m = m)
  clear h hok1
  generalize dCrash b.d keep (lst junk) = dc at *
  have HTr := hide htr
  have HNn := hide hN
  clear htr
  go_enter Tryz.func10, Tryz.ntmps10
  go_wp2_with fail
  refine (unhide HC).mono ?_
  rintro e w1 ⟨rfl, vs1, hd1, hf1⟩
  obtain ⟨hb1, hl1⟩ := HD1.out w1 vs1 hd1 hf1
  have HB1 := hide hb1; have HL1 := hide hl1
  have hz1 := hl1.size
  have HMi1 : Hid (Chg (ownB B b none) w w1 ∧ ∀ x, dHas b.D vs1 x → ownB B b none x ∨ w.heap.size ≤ x) := ⟨hf1.chg.weak (fun _ q => .inl (.inr (.inl (.inr q)))), fun x q => (dfr_vo hf1 x q).imp (fun c => .inr (.inl (.inr c))) id⟩
  have HND := hide (newDevice_any w1)
  clear hd1 hf1 hb1 hl1 HC HD1 c0
  go_wp2_with fail
  refine (unhide HND).mono ?_
  rintro e w2 ⟨rfl, hd2, hx2, hs2, hb2⟩
  have hM : MvAt N B { b with d := dc, vs := vs1 } (w1.heap.size + 1) w1.heap.size dv0 nilV (m + 1) w2 := by
    have hN1 : N ≤ w1.heap.size := by omega
    have q := HB1.out
    refine ⟨q.up hN1 hb2, hx2, hd2, fun x c => ?_, fun c => ?_⟩
    · have hx : w1.heap.size ≤ x := by
        rcases c with c | c | ⟨i, _, c⟩
        · omega
        · omega
        · cases c
      exact ⟨fun e => by have := q.has e; omega, by have := q.lt; omega, by omega⟩
    · rcases c with c | ⟨i, _, c⟩
      · omega
      · cases c
  have hBe : Below N w w2 := HL1.out.trans (hb2.mono (by omega))
  have hMi : Mi B b vs1 (w1.heap.size + 1) w1.heap.size nilV w w2 := by
    refine ⟨HMi1.out.1.trans (F1 := fun _ => False) (fun x q => q.elim) (Chg.of_below hb2), HMi1.out.2, fun x q => ?_⟩
    rcases q with q | q | ⟨i, _, q⟩
    · omega
    · omega
    · cases q
  have HI0 : Hid (∃ vs vs2, MvAt N B { b with d := dc, vs := vs } (w1.heap.size + 1) w1.heap.size (mvI dc 0) vs2 (m + 1) w2 ∧ Below N w w2 ∧ Mi B b vs (w1.heap.size + 1) w1.heap.size vs2 w w2) := ⟨vs1, nilV, hM, hBe, hMi⟩
  clear hd2 hx2 hb2 hM hBe hMi HMi1 HND HB1
  go_upto_region 6 with fail
  go_loopw [8] (fun i wr => ∃ j : Nat, j ≤ 2 ∧ i = .int .i64 j ∧ Hid (∃ vs vs2, MvAt N B { b with d := dc, vs := vs } (w1.heap.size + 1) w1.heap.size (mvI dc j) vs2 (m + 1) wr ∧ Below N w wr ∧ Mi B b vs (w1.heap.size + 1) w1.heap.size vs2 w wr)) (fun i _ => 2 - (intOf i).toNat)
  case atStart => exact ⟨0, by decide, rfl, HI0.out⟩
  case round =>
    obtain ⟨j, hj, rfl, HI⟩ := hrel
    obtain ⟨vs, vs2, hM, hbw, hmi⟩ := HI.out
    have HMi := hide hmi
    clear hmi
    have c0 := hM.bd.c0
    by_cases hlt : j < 2
    · have hlt' : (j : Int) < 2 := by omega
      have hzw := hbw.size
      have hrd : dRead dc (j : Int) = (dc.b j, 0, dc) := read_calm HTr.out hlt
      have hlen : (dc.b j).length ≤ 1500 := hM.bd.dv.len j hlt
      have HC := hide (cRead_any b.X b.D dc vs (j : Int) wr hM.bd.x hM.bd.dv)
      rw [hrd] at HC
      simp only at HC
      have HM0 := hide hM; have HBw := hide hbw; have HLen := hide hlen
      clear hM hbw hrd hlen HI HI0
      go_wp2_with fail
      refine (unhide HC).mono ?_
      rintro e w3 ⟨rfl, vs3, hd3, hf3⟩
      obtain ⟨hM3, hb3⟩ := HM0.out.old (by have := HNn.out; omega) hd3 hf3 HM0.out.bd.ok HM0.out.bd.wk
      have hz3 := hb3.size
      have hl2 : ((mvI dc j).b j).length + (dc.b j).length ≤ 1500 := by rw [mvI_nil dc j j (Nat.le_refl _)]; have := HLen.out; simpa using this
      have had := add_calm (mvI_tr dc j) hlt hl2
      have hcp := cp_calm (mvI_tr dc j) hlt hl2
      have HC3 := hide (cAdd_any (w1.heap.size + 1) w1.heap.size (mvI dc j) vs2 (j : Int) (bya (dc.b j)) w3 hM3.x hM3.dv (by rw [bya_size]; have := HLen.out; omega))
      have HM3 := hide hM3; have HB3 := hide hb3
      have HMi3 := hide (HMi.out.old hf3)
      rw [lst_bya] at HC3
      clear hd3 hf3 hM3 hb3 HC HM0
      go_wp2_with fail
      refine (unhide HC3).mono ?_
      rintro e w4 ⟨rfl, vs4, hd4, hf4⟩
      obtain ⟨hM4, hb4⟩ := HM3.out.new (by have := HNn.out; omega) hd4 hf4
      have hz4 := hb4.size
      have HC4 := hide (cSync_any (w1.heap.size + 1) w1.heap.size (dAdd (mvI dc j) (j : Int) (dc.b j)).2 vs4 (j : Int) w4 hM4.x hM4.dv)
      rw [hcp] at HC4
      rw [had]
      simp only at HC4 ⊢
      have HM4 := hide hM4; have HB4 := hide hb4
      have HMi4 := hide (HMi3.out.new hf4)
      clear hd4 hf4 hM4 hb4 HC3 HM3 had hcp hl2
      go_wp2_with fail
      refine (unhide HC4).mono ?_
      rintro e w5 ⟨rfl, vs5, hd5, hf5⟩
      obtain ⟨hM5, hb5⟩ := HM4.out.new (by have := HNn.out; omega) hd5 hf5
      have HN : Hid (∃ vs vs2, MvAt N B { b with d := dc, vs := vs } (w1.heap.size + 1) w1.heap.size (mvI dc (j + 1)) vs2 (m + 1) w5 ∧ Below N w w5 ∧ Mi B b vs (w1.heap.size + 1) w1.heap.size vs2 w w5) := ⟨vs3, vs5, hM5, ((HBw.out.trans HB3.out).trans HB4.out).trans hb5, HMi4.out.new hf5⟩
      clear hd5 hf5 hM5 hb5 HC4 HM4 c0
      go_wp2_with fail
      exact ⟨⟨j + 1, by omega, by go_num, HN.out⟩, by simp [intOf]; omega⟩
    · have hlt' : ¬ (j : Int) < 2 := by omega
      obtain rfl : j = 2 := by omega
      have f0 := hM.bd.fz 0
      obtain ⟨W, hW⟩ : ∃ W, W = wr.setCell ⟨B, 0, none⟩ (.pointer (some ⟨w1.heap.size + 1, 0, none⟩)) := ⟨_, rfl⟩
      have hfin : BdAt N B { b with X := w1.heap.size + 1, D := w1.heap.size, d := mvD dc, vs := vs2 } (m + 1) W := by
        rw [hW]
        exact hM.put (mvI_ok dc 2) (by have := mvI_wk dc 2; rw [this]; omega)
      have HF : Hid (MvFin N B b dc m w W) := by
        refine ⟨_, _, _, ⟨hfin.lt, hfin.fz, hfin.c0, hfin.c1, hfin.st, hfin.mu, hfin.x, hfin.dv, hfin.ok, ?_, hfin.z, hfin.ge, hfin.nB, hfin.nX⟩, ?_⟩
        · have e : (mvD dc).wk = 0 := mvI_wk dc 2
          show 0 ≤ (mvD dc).wk ∧ (mvD dc).wk ≤ (m : Int)
          rw [e]
          omega
        · rw [hW]
          refine ⟨HMi.out.chg.trans (F1 := fun x => x = B) (fun _ q => .inl (.inl q)) (Chg.set wr B 0 _), fun x q => ?_⟩
          rcases q with q | q | ⟨_, q, _⟩
          · exact .inl (.inl q)
          · exact .inr (HMi.out.o2 x q)
          · cases q
      have HW := hide hW
      clear hM hbw hfin hW HI HI0
      go_upto_region 14 with fail
      rw [← HW.out]
      go_wp2_with fail
      go_ret
      exact ⟨rfl, HF.out⟩
end Go.Proofs.YtmmflekajbeamabGreatDoor
