/-
  Faithful: one step of the bench, of the kinds that call the device.
  Faithful: one step of the bench: a frame is added; every step.
  Calls of a hand, the program's and then the document's: Persist, Compact, Run, State, Counts.
  The law's worked: calls of a hand.
  The law's worked: State, Counts.
  A start over a device that no trouble waits for, with short areas, answers OK.
  Faithful: a new bench (bench).
-/
import Derived.Test.YtmmflekajbeamaaGreatDoorF34
import Derived.Test.YtmmflekajbeamaaGreatDoorF16
import Derived.Test.YtmmflekajbeamaaGreatDoorF24
namespace Go.Proofs.YtmmflekajbeamaaGreatDoor
open Go.RowKit Go.Maps Go.WideMaps

/-- A call of the bench's device. -/
theorem BnAt.devF {N B : Nat} {b : Bn} {oe : Option En} {m k : Nat} {w w' : World} {d' : DvN} {vs' : Nat → Value} (h : BnAt N B b oe m k w) (hN : N ≤ w.heap.size) (hd : DvAt b.D d' vs' w') (hf : DFr b.D b.vs vs' w w') (ok : DvOK d') (wk : d'.wk = b.d.wk) : ∃ b', BnAt N B b' oe m k w' ∧ Below N w w' :=
  ⟨_, h.dev hN hd hf ok (by rw [wk]; exact h.1.wk)⟩
theorem FsPost.of {N B m k : Nat} {b' : Bn} {oe' : Option En} {w w' : World} (h : BnAt N B b' oe' m k w') (hb : Below N w w') : FsPost N B m k w (.returned (.bool true)) w' := ⟨rfl, b', oe', h.more (by omega) (by omega), hb⟩
set_option maxRecDepth 100000 in
set_option maxHeartbeats 4000000 in
theorem step5 {N B : Nat} {b : Bn} {oe : Option En} {m k : Nat} {w : World} (h : BnAt N B b oe m k w) (hN : N ≤ w.heap.size) (kd a b' kinds : Int) (s : ByteArray) (ok : SbOK kd a b' s) (hki : 0 < kinds ∧ kinds ≤ 9) (hkd : pickI kd kinds = 5) :
    Calls Tryz.prog 10 #[.pointer (some ⟨B, 0, none⟩), .agg (spC kd a b' s), .int .i64 kinds] w (FsPost N B m k w) := by
  obtain ⟨W, hW⟩ : ∃ W, W = w.alloc (.cells (spC kd a b' s) 36) := ⟨_, rfl⟩
  have hX := sbx_new h hN kd a b' s W hW
  have HW := hide hW
  have c0 := hX.c0
  have c1 := hX.c1
  have d0 := hX.bn.1.c0
  have HP := hide (fun w' => pick_any kd kinds w' ok.kd.1 ok.kd.2 hki.1 (by omega))
  rw [hkd] at HP
  have HPa := hide (fun w' => pick_any a 12 w' ok.a.1 ok.a.2 (by decide) (by decide))
  obtain ⟨n, hn, hn3⟩ := pickI_ex a 12 (by decide)
  rw [hn] at HPa
  have hNW : N ≤ W.heap.size := Nat.le_trans hN hX.bel.size
  have hbd : BnAt N B b oe m k W.drew := hX.bn.up hNW (Below.refl _ W).drew
  have HC := hide (cTrouble_any b.X b.D b.d b.vs (n : Int) W.drew hbd.1.x hbd.1.dv (by omega))
  have htr : dTrouble b.d (n : Int) = (0, { b.d with tr := n }) := by unfold dTrouble; rw [if_neg (by omega)]; rfl
  rw [htr] at HC
  simp only at HC
  have HF : Hid (∀ w1 vs1, DvAt b.D { b.d with tr := n } vs1 w1 → DFr b.D b.vs vs1 W.drew w1 → FsPost N B m k w (.returned (.bool true)) w1) := fun w1 vs1 q1 q2 => by
    obtain ⟨b1, r1, r2⟩ := hbd.devF hNW q1 q2 hbd.1.ok rfl
    exact FsPost.of r1 (((hX.bel.mono hN).drew).trans r2)
  clear h hW hX ok hki hkd hn hn3 hbd htr
  generalize spC kd a b' s = SC at *
  go_enter Tryz.func10, Tryz.ntmps10
  go_upto_region 1 with fail
  rw [← HW.out]
  go_wp2_with fail
  refine (unhide HP _).mono ?_
  rintro e w' ⟨rfl, hw⟩
  obtain rfl := hw.symm
  go_upto_region 16 with fail
  refine held_pick2 6 [0, 1, 2, 3, 4, 5] [6, 7, 8] 7 (fun w' => w'.cell? ⟨B, 0, none⟩ = some (.pointer (some ⟨b.X, 0, none⟩)) ∧ w'.cell? ⟨w.heap.size, 1, none⟩ = some (.int .i64 a)) (by kernel_rfl) (by kernel_rfl) (fun d _ _ _ _ h => by cases d <;> exact h) ⟨d0, c1⟩ ?_
  iterate 6
    refine wpTakeI_step ?_ rfl rfl ?_ ?_
    rotate_left
    · rintro w' ⟨q0, q1⟩
      go_simp
      rfl
    go_simp
  refine wpTakeI_nil ?_
  refine wpTailI_step rfl rfl (fun K hK => ?_)
  go_simp
  refine (unhide HPa _).mono ?_
  rintro e w' ⟨rfl, hw⟩
  obtain rfl := hw.symm
  refine hK _ _ (fun _ => ⟨d0, c1⟩) ?_
  clear hK K
  refine wpTailI_step rfl rfl (fun K hK => ?_)
  go_simp
  refine (unhide HC).mono ?_
  rintro e w1 ⟨rfl, vs1, q1, q2⟩
  have HFin := hide (HF.out w1 vs1 q1 q2)
  clear q1 q2 HC HF
  refine hK _ _ (fun h => absurd h (by decide)) ?_
  clear hK K
  refine wpTailI_step rfl rfl (fun K hK => ?_)
  go_simp
  refine hK _ _ (fun h => absurd h (by decide)) ?_
  clear hK K
  refine wpTailI_nil ?_
  go_wp2_with fail
  go_ret
  exact HFin.out
set_option maxRecDepth 100000 in
set_option maxHeartbeats 4000000 in
theorem step6 {N B : Nat} {b : Bn} {oe : Option En} {m k : Nat} {w : World} (h : BnAt N B b oe m k w) (hN : N ≤ w.heap.size) (kd a b' kinds : Int) (s : ByteArray) (ok : SbOK kd a b' s) (hki : 0 < kinds ∧ kinds ≤ 9) (hkd : pickI kd kinds = 6) :
    Calls Tryz.prog 10 #[.pointer (some ⟨B, 0, none⟩), .agg (spC kd a b' s), .int .i64 kinds] w (FsPost N B m k w) := by
  obtain ⟨W, hW⟩ : ∃ W, W = w.alloc (.cells (spC kd a b' s) 36) := ⟨_, rfl⟩
  have hX := sbx_new h hN kd a b' s W hW
  have HW := hide hW
  have c0 := hX.c0
  have c1 := hX.c1
  have c3 := hX.c3
  have d0 := hX.bn.1.c0
  have HP := hide (fun w' => pick_any kd kinds w' ok.kd.1 ok.kd.2 hki.1 (by omega))
  rw [hkd] at HP
  have HPa := hide (fun w' => pick_any a 2 w' ok.a.1 ok.a.2 (by decide) (by decide))
  generalize pickI a 2 = n at *
  have hNW : N ≤ W.heap.size := Nat.le_trans hN hX.bel.size
  have hbd : BnAt N B b oe m k W.drew := hX.bn.up hNW (Below.refl _ W).drew
  have HC := hide (cAdd_any b.X b.D b.d b.vs n s W.drew hbd.1.x hbd.1.dv ok.s)
  have HF : Hid (∀ w1 vs1, DvAt b.D (dAdd b.d n (lst s)).2 vs1 w1 → DFr b.D b.vs vs1 W.drew w1 → FsPost N B m k w (.returned (.bool true)) w1) := fun w1 vs1 q1 q2 => by
    obtain ⟨b1, r1, r2⟩ := hbd.devF hNW q1 q2 (clo_ok.add _ _ _ hbd.1.ok) ((clo_wk b.d.wk).add _ _ _ rfl)
    exact FsPost.of r1 (((hX.bel.mono hN).drew).trans r2)
  clear h hW hX ok hki hkd hbd
  generalize dAdd b.d n (lst s) = R at *
  generalize spC kd a b' s = SC at *
  go_enter Tryz.func10, Tryz.ntmps10
  go_upto_region 1 with fail
  rw [← HW.out]
  go_wp2_with fail
  refine (unhide HP _).mono ?_
  rintro e w' ⟨rfl, hw⟩
  obtain rfl := hw.symm
  go_upto_region 19 with fail
  refine held_pick2 6 [0, 1, 2, 3, 4, 5, 7, 8] [6, 9] 9 (fun w' => w'.cell? ⟨B, 0, none⟩ = some (.pointer (some ⟨b.X, 0, none⟩)) ∧ w'.cell? ⟨w.heap.size, 1, none⟩ = some (.int .i64 a) ∧ w'.cell? ⟨w.heap.size, 3, none⟩ = some (.string s)) (by kernel_rfl) (by kernel_rfl) (fun d _ _ _ _ h => by cases d <;> exact h) ⟨d0, c1, c3⟩ ?_
  iterate 8
    refine wpTakeI_step ?_ rfl rfl ?_ ?_
    rotate_left
    · rintro w' ⟨q0, q1, q2⟩
      go_simp
      rfl
    go_simp
  refine wpTakeI_nil ?_
  refine wpTailI_step rfl rfl (fun K hK => ?_)
  go_simp
  refine (unhide HPa _).mono ?_
  rintro e w' ⟨rfl, hw⟩
  obtain rfl := hw.symm
  refine hK _ _ (fun _ => ⟨d0, c1, c3⟩) ?_
  clear hK K
  refine wpTailI_step rfl rfl (fun K hK => ?_)
  go_simp
  refine (unhide HC).mono ?_
  rintro e w1 ⟨rfl, vs1, q1, q2⟩
  have HFin := hide (HF.out w1 vs1 q1 q2)
  clear q1 q2 HC HF
  refine hK _ _ (fun h => absurd h (by decide)) ?_
  clear hK K
  refine wpTailI_nil ?_
  go_wp2_with fail
  go_ret
  exact HFin.out
set_option maxRecDepth 100000 in
set_option maxHeartbeats 4000000 in
theorem step7 {N B : Nat} {b : Bn} {oe : Option En} {m k : Nat} {w : World} (h : BnAt N B b oe m k w) (hN : N ≤ w.heap.size) (kd a b' kinds : Int) (s : ByteArray) (ok : SbOK kd a b' s) (hki : 0 < kinds ∧ kinds ≤ 9) (hkd : pickI kd kinds = 7) :
    Calls Tryz.prog 10 #[.pointer (some ⟨B, 0, none⟩), .agg (spC kd a b' s), .int .i64 kinds] w (FsPost N B m k w) := by
  obtain ⟨W, hW⟩ : ∃ W, W = w.alloc (.cells (spC kd a b' s) 36) := ⟨_, rfl⟩
  have hX := sbx_new h hN kd a b' s W hW
  have HW := hide hW
  have c0 := hX.c0
  have c1 := hX.c1
  have d0 := hX.bn.1.c0
  have hNl : N ≤ w.heap.size := hN
  have HP := hide (fun w' => pick_any kd kinds w' ok.kd.1 ok.kd.2 hki.1 (by omega))
  rw [hkd] at HP
  have HPa := hide (fun w' => pick_any a 2 w' ok.a.1 ok.a.2 (by decide) (by decide))
  generalize pickI a 2 = n at *
  have hNW : N ≤ W.heap.size := Nat.le_trans hN hX.bel.size
  have hbd : BnAt N B b oe m k W.drew := hX.bn.up hNW (Below.refl _ W).drew
  have HC := hide (cClear_any b.X b.D b.d b.vs n W.drew hbd.1.x hbd.1.dv)
  have HSy : Hid (∀ w1 vs1, DvAt b.D (dClear b.d n).2 vs1 w1 → DFr b.D b.vs vs1 W.drew w1 → ∃ b1, b1.X = b.X ∧ b1.D = b.D ∧ BnAt N B b1 oe m k w1 ∧ Below N w w1) := fun w1 vs1 q1 q2 => by
    obtain ⟨r1, r2⟩ := hbd.dev (m' := m) hNW q1 q2 (clo_ok.clear _ _ hbd.1.ok) (by rw [(clo_wk b.d.wk).clear _ _ rfl]; exact hbd.1.wk)
    exact ⟨{ b with d := (dClear b.d n).2, vs := vs1 }, rfl, rfl, r1, ((hX.bel.mono hN).drew).trans r2⟩
  have HBn := hide hX.bn
  have hws : w.heap.size < W.heap.size := by have := hX.c0; exact block_lt_of_cell this
  have hown : ∀ x, dHas b.D b.vs x → x ≠ w.heap.size := fun x q e => by
    have := h.1.has (.inr q)
    omega
  have HOw := hide hown
  clear h hW hX ok hki hkd hbd hown
  generalize dClear b.d n = R at *
  generalize spC kd a b' s = SC at *
  go_enter Tryz.func10, Tryz.ntmps10
  go_upto_region 1 with fail
  rw [← HW.out]
  go_wp2_with fail
  refine (unhide HP _).mono ?_
  rintro e w' ⟨rfl, hw⟩
  obtain rfl := hw.symm
  go_upto_region 21 with fail
  refine held_pick2 6 [0, 1, 2, 3, 4, 5] [6, 7] 7 (fun w' => w'.cell? ⟨B, 0, none⟩ = some (.pointer (some ⟨b.X, 0, none⟩)) ∧ w'.cell? ⟨w.heap.size, 1, none⟩ = some (.int .i64 a)) (by kernel_rfl) (by kernel_rfl) (fun d _ _ _ _ h => by cases d <;> exact h) ⟨d0, c1⟩ ?_
  iterate 6
    refine wpTakeI_step ?_ rfl rfl ?_ ?_
    rotate_left
    · rintro w' ⟨q0, q1⟩
      go_simp
      rfl
    go_simp
  refine wpTakeI_nil ?_
  refine wpTailI_step rfl rfl (fun K hK => ?_)
  go_simp
  refine (unhide HPa _).mono ?_
  rintro e w' ⟨rfl, hw⟩
  obtain rfl := hw.symm
  refine hK _ _ (fun _ => ⟨d0, c1⟩) ?_
  clear hK K
  refine wpTailI_step rfl rfl (fun K hK => ?_)
  go_simp
  refine (unhide HC).mono ?_
  rintro e w1 ⟨rfl, vs1, q1, q2⟩
  obtain ⟨b1, eX, eD, hb1, hl1⟩ := HSy.out w1 vs1 q1 q2
  have hz1 := q2.below.size
  have k1 : w1.cell? ⟨w.heap.size, 1, none⟩ = some (.int .i64 a) := (World.cell?_of_block (q2.chg.other w.heap.size hws (fun q => HOw.out _ q rfl))).trans c1
  have k0 := hb1.1.c0
  rw [eX] at k0
  have hN1 : N ≤ w1.heap.size := Nat.le_trans hNl hl1.size
  have hbd1 : BnAt N B b1 oe m k w1.drew := hb1.up hN1 (Below.refl _ w1).drew
  have HC1 := hide (cSync_any b1.X b1.D b1.d b1.vs n w1.drew hbd1.1.x hbd1.1.dv)
  rw [eX] at HC1
  have HF : Hid (∀ w2 vs2, DvAt b1.D (dSync b1.d n).2 vs2 w2 → DFr b1.D b1.vs vs2 w1.drew w2 → FsPost N B m k w (.returned (.bool true)) w2) := fun w2 vs2 q1 q2 => by
    obtain ⟨b2, r1, r2⟩ := hbd1.devF hN1 q1 q2 (clo_ok.sync _ _ hbd1.1.ok) ((clo_wk b1.d.wk).sync _ _ rfl)
    exact FsPost.of r1 ((hl1.drew).trans r2)
  clear q1 q2 HC HSy hb1 hl1 hbd1 eD
  generalize dSync b1.d n = R1 at *
  refine hK _ _ (fun h => absurd h (by decide)) ?_
  clear hK K
  refine wpTailI_nil ?_
  go_upto_region 22 with fail
  refine held_pick2 6 [0, 1, 2, 3, 4, 5] [6, 7] 7 (fun w' => w'.cell? ⟨B, 0, none⟩ = some (.pointer (some ⟨b.X, 0, none⟩)) ∧ w'.cell? ⟨w.heap.size, 1, none⟩ = some (.int .i64 a)) (by kernel_rfl) (by kernel_rfl) (fun d _ _ _ _ h => by cases d <;> exact h) ⟨k0, k1⟩ ?_
  iterate 6
    refine wpTakeI_step ?_ rfl rfl ?_ ?_
    rotate_left
    · rintro w' ⟨q0, q1⟩
      go_simp
      rfl
    go_simp
  refine wpTakeI_nil ?_
  refine wpTailI_step rfl rfl (fun K hK => ?_)
  go_simp
  refine (unhide HPa _).mono ?_
  rintro e w' ⟨rfl, hw⟩
  obtain rfl := hw.symm
  refine hK _ _ (fun _ => ⟨k0, k1⟩) ?_
  clear hK K
  refine wpTailI_step rfl rfl (fun K hK => ?_)
  go_simp
  refine (unhide HC1).mono ?_
  rintro e w2 ⟨rfl, vs2, q1, q2⟩
  have HFin := hide (HF.out w2 vs2 q1 q2)
  clear q1 q2 HC1 HF
  refine hK _ _ (fun h => absurd h (by decide)) ?_
  clear hK K
  refine wpTailI_nil ?_
  go_wp2_with fail
  go_ret
  exact HFin.out
end Go.Proofs.YtmmflekajbeamaaGreatDoor

namespace Go.Proofs.YtmmflekajbeamaaGreatDoor
open Go.RowKit Go.Maps Go.WideMaps

theorem seal_short {kind : Int} {p : ByteArray} {w w' : World} {e : Ending} (h : SealPost kind p w e w') (hp : p.size ≤ 1000000000) : ∃ D n, e = .returned (.tuple #[.string D, .int .i64 n]) ∧ D.size ≤ 140737488351232 ∧ Below w.heap.size w w' := by
  obtain ⟨hb, ⟨_, rfl⟩ | ⟨_, rfl⟩⟩ := h
  · refine ⟨_, _, rfl, ?_, hb⟩
    rw [bya_size, frT_len]
    have := lst_len p
    omega
  · exact ⟨_, _, rfl, by rw [bya_size]; exact Nat.zero_le _, hb⟩
set_option maxRecDepth 100000 in
set_option maxHeartbeats 4000000 in
theorem step8 {N B : Nat} {b : Bn} {oe : Option En} {m k : Nat} {w : World} (h : BnAt N B b oe m k w) (hN : N ≤ w.heap.size) (kd a b' kinds : Int) (s : ByteArray) (ok : SbOK kd a b' s) (hsz : s.size ≤ 1000000000) (hki : 0 < kinds ∧ kinds ≤ 9) (hkd : pickI kd kinds = 8) :
    Calls Tryz.prog 10 #[.pointer (some ⟨B, 0, none⟩), .agg (spC kd a b' s), .int .i64 kinds] w (FsPost N B m k w) := by
  obtain ⟨W, hW⟩ : ∃ W, W = w.alloc (.cells (spC kd a b' s) 36) := ⟨_, rfl⟩
  have hX := sbx_new h hN kd a b' s W hW
  have HW := hide hW
  have c0 := hX.c0
  have c1 := hX.c1
  have c2 := hX.c2
  have c3 := hX.c3
  have HP := hide (fun w' => pick_any kd kinds w' ok.kd.1 ok.kd.2 hki.1 (by omega))
  rw [hkd] at HP
  have HPa := hide (fun w' => pick_any a 3 w' ok.a.1 ok.a.2 (by decide) (by decide))
  obtain ⟨n, hn, hn3⟩ := pickI_ex a 3 (by decide)
  rw [hn] at HPa
  have HPb := hide (fun w' => pick_any b' 2 w' ok.b.1 ok.b.2 (by decide) (by decide))
  generalize pickI b' 2 = n2 at *
  have hNW : N ≤ W.heap.size := Nat.le_trans hN hX.bel.size
  have HSe : Hid (∀ (q : Int) (w' : World), Calls Tryz.prog 30 #[.int .i64 q, .string s] w' fun e w'' => ∃ D n, e = .returned (.tuple #[.string D, .int .i64 n]) ∧ D.size ≤ 140737488351232 ∧ Below w'.heap.size w' w'') := fun q w' => (cribSeal_any q s w').mono (fun _ _ c => seal_short c hsz)
  have hw1 : wrap64 (1 + (n : Int)) = 1 + (n : Int) := by unfold wrap64; omega
  have hw2 : IntKind.i64.wrap (1 + (n : Int)) = 1 + (n : Int) := by
    have q := cr4i (N := 1) (M := n) (by omega)
    have e : ((1 + n : Nat) : Int) = 1 + (n : Int) := by omega
    rw [e] at q
    exact q
  have hws : w.heap.size < W.heap.size := block_lt_of_cell c0
  have HA : Hid (∀ (D : ByteArray) (w1 : World), D.size ≤ 140737488351232 → Below W.heap.size W w1 → Calls Tryz.prog 27 #[.pointer (some ⟨b.X, 0, none⟩), .int .i64 n2, .string D] w1.drew fun e w2 => (∃ q, e = .returned (.int .i64 q)) ∧ FsPost N B m k w (.returned (.bool true)) w2) := fun D w1 hD hb => by
    have hN1 : N ≤ w1.heap.size := Nat.le_trans hNW hb.size
    have hbd : BnAt N B b oe m k w1.drew := hX.bn.up hNW hb.drew
    refine (cAdd_any b.X b.D b.d b.vs n2 D w1.drew hbd.1.x hbd.1.dv hD).mono ?_
    rintro e w2 ⟨rfl, vs2, q1, q2⟩
    obtain ⟨b1, r1, r2⟩ := hbd.devF hN1 q1 q2 (clo_ok.add _ _ _ hbd.1.ok) ((clo_wk b.d.wk).add _ _ _ rfl)
    exact ⟨⟨_, rfl⟩, FsPost.of r1 (((hX.bel.mono hN).trans ((hb.drew).mono hNW)).trans r2)⟩
  have d0 := hX.bn.1.c0
  have hBl := hX.bn.1.lt
  clear h hW hX ok hki hkd hn hn3 hsz
  generalize spC kd a b' s = SC at *
  go_enter Tryz.func10, Tryz.ntmps10
  go_upto_region 1 with fail
  rw [← HW.out]
  go_wp2_with fail
  refine (unhide HP _).mono ?_
  rintro e w' ⟨rfl, hw⟩
  obtain rfl := hw.symm
  go_upto_region 24 with fail
  refine held_pick3 6 [0, 1, 4, 5] [2, 3, 6] 6 7 (fun w' => w'.cell? ⟨w.heap.size, 1, none⟩ = some (.int .i64 a) ∧ w'.cell? ⟨w.heap.size, 3, none⟩ = some (.string s)) (by kernel_rfl) (by kernel_rfl) (fun d _ _ _ _ h => by cases d <;> exact h) ⟨c1, c3⟩ ?_
  iterate 4
    refine wpTakeI_step ?_ rfl rfl ?_ ?_
    rotate_left
    · rintro w' ⟨q0, q1⟩
      go_simp
      rfl
    go_simp
  refine wpTakeI_nil ?_
  refine wpTailJ_step rfl rfl (fun K hK => ?_)
  go_simp
  refine (unhide HPa _).mono ?_
  rintro e w' ⟨rfl, hw⟩
  obtain rfl := hw.symm
  refine hK _ _ (fun _ => ⟨c1, c3⟩) ?_
  clear hK K
  refine wpTailJ_step rfl rfl (fun K hK => ?_)
  go_simp
  refine hK _ _ (fun _ => ⟨c1, c3⟩) ?_
  clear hK K
  refine wpTailJ_step rfl rfl (fun K hK => ?_)
  go_simp
  refine (unhide HSe _ _).mono ?_
  rintro e w1 ⟨D, nn, rfl, hD, hb1⟩
  have hb1' : Below W.heap.size W w1 := (Below.refl _ W).drew.trans hb1
  have HC := hide (HA.out D w1 hD hb1')
  have k2 := (World.cell?_of_block (a := ⟨w.heap.size, 2, none⟩) (hb1'.block _ hws)).trans c2
  have k0 := (World.cell?_of_block (a := ⟨B, 0, none⟩) (hb1'.block _ hBl)).trans d0
  clear hD hb1 hb1' HA HSe
  go_simp
  refine hK _ _ (fun h => absurd h (by decide)) ?_
  clear hK K
  refine wpTailJ_nil ?_
  repeat still_step
  refine wpStill_nil ?_
  go_upto_region 25 with fail
  refine held_pick2 6 [0, 1, 2, 3, 4, 5, 7] [6, 8] 8 (fun w' => w'.cell? ⟨B, 0, none⟩ = some (.pointer (some ⟨b.X, 0, none⟩)) ∧ w'.cell? ⟨w.heap.size, 2, none⟩ = some (.int .i64 b')) (by kernel_rfl) (by kernel_rfl) (fun d _ _ _ _ h => by cases d <;> exact h) ⟨k0, k2⟩ ?_
  iterate 7
    refine wpTakeI_step ?_ rfl rfl ?_ ?_
    rotate_left
    · rintro w' ⟨q0, q1⟩
      go_simp
      rfl
    go_simp
  refine wpTakeI_nil ?_
  refine wpTailI_step rfl rfl (fun K hK => ?_)
  go_simp
  refine (unhide HPb _).mono ?_
  rintro e w' ⟨rfl, hw⟩
  obtain rfl := hw.symm
  refine hK _ _ (fun _ => ⟨k0, k2⟩) ?_
  clear hK K
  refine wpTailI_step rfl rfl (fun K hK => ?_)
  go_simp
  refine (unhide HC).mono ?_
  rintro e w2 ⟨⟨q, rfl⟩, hf⟩
  have HFin := hide hf
  clear hf HC
  refine hK _ _ (fun h => absurd h (by decide)) ?_
  clear hK K
  refine wpTailI_nil ?_
  go_wp2_with fail
  go_ret
  exact HFin.out
/-- Every step of Faithful. -/
theorem step_f {N B : Nat} {b : Bn} {oe : Option En} {m k : Nat} {w : World} (h : BnAt N B b oe m k w) (hN : N ≤ w.heap.size) (h0 : 0 < N) (ht : Tab w) (hm : m ≤ 100000000000000) (hk : 1500 ≤ k ∧ k ≤ 99999900000) (kd a b' : Int) (s : ByteArray) (ok : SbOK kd a b' s) (hsz : s.size ≤ 1000000000) (kinds : Int) (hki : 0 < kinds ∧ kinds ≤ 9) :
    Calls Tryz.prog 10 #[.pointer (some ⟨B, 0, none⟩), .agg (spC kd a b' s), .int .i64 kinds] w (FsPost N B m k w) := by
  have hb := pickI_bd kd kinds hki.1
  have cs : pickI kd kinds = 0 ∨ pickI kd kinds = 1 ∨ pickI kd kinds = 2 ∨ pickI kd kinds = 3 ∨ pickI kd kinds = 4 ∨ pickI kd kinds = 5 ∨ pickI kd kinds = 6 ∨ pickI kd kinds = 7 ∨ pickI kd kinds = 8 := by omega
  rcases cs with c | c | c | c | c | c | c | c | c
  · exact step0 h hN h0 ht hk.2 kd a b' kinds s ok hki c
  · exact step12 h hN h0 ht hk.2 kd a b' kinds s ok hki false (by rw [c]; rfl)
  · exact step12 h hN h0 ht hk.2 kd a b' kinds s ok hki true (by rw [c]; rfl)
  · exact step3 h hN h0 ht hm hk.1 kd a b' kinds s ok hki c
  · exact step4 h hN h0 ht hm hk.1 kd a b' kinds s ok hki c
  · exact step5 h hN kd a b' kinds s ok hki c
  · exact step6 h hN kd a b' kinds s ok hki c
  · exact step7 h hN kd a b' kinds s ok hki c
  · exact step8 h hN kd a b' kinds s ok hsz hki c
end Go.Proofs.YtmmflekajbeamaaGreatDoor

namespace Go.Proofs.YtmmflekajbeamaaGreatDoor
open Go.RowKit Go.Maps Go.WideMaps

end Go.Proofs.YtmmflekajbeamaaGreatDoor

namespace Go.Proofs.YtmmflekajbeamaaGreatDoor
open Go.RowKit Go.Maps Go.WideMaps

end Go.Proofs.YtmmflekajbeamaaGreatDoor

namespace Go.Proofs.YtmmflekajbeamaaGreatDoor
open Go.RowKit Go.Maps Go.WideMaps

end Go.Proofs.YtmmflekajbeamaaGreatDoor

namespace Go.Proofs.YtmmflekajbeamaaGreatDoor

theorem scan_short {l : List UInt8} (h : l.length ≤ 11) : scan l = ar0 := by
  unfold scan
  rw [scn]
  cases hf : frst l with
  | none => rfl
  | some kp =>
    obtain ⟨k, p⟩ := kp
    simp only
    obtain ⟨_, _, _, hl, _⟩ := frst_some hf
    have : arT ar0 k p = none := by
      unfold arT
      rw [if_pos (show ar0.gen = 0 from rfl), if_neg (fun c => by have := c.2.1; omega)]
    rw [this]
theorem calm_sync {d : DvN} (h : d.tr = 0) {i : Int} (hi : ¬ (i < 0 ∨ 2 ≤ i)) : (dSync d i).1 = 0 ∧ (dSync d i).2.tr = 0 ∧ (dSync d i).2.b = d.b := by
  unfold dSync
  rw [if_neg hi, if_neg (by omega)]
  exact ⟨rfl, by show d.tr - 1 = 0; omega, rfl⟩
theorem calm_read {d : DvN} (h : d.tr = 0) {i : Int} (hi : ¬ (i < 0 ∨ 2 ≤ i)) : (dRead d i).2.1 = 0 ∧ (dRead d i).2.2.tr = 0 ∧ (dRead d i).2.2.b = d.b ∧ (dRead d i).1 = d.b i.toNat := by
  unfold dRead
  rw [if_neg hi, if_neg (by omega)]
  exact ⟨rfl, by show d.tr - 1 = 0; omega, rfl, rfl⟩
theorem calm_clear {d : DvN} (h : d.tr = 0) {i : Int} (hi : ¬ (i < 0 ∨ 2 ≤ i)) : (dClear d i).1 = 0 ∧ (dClear d i).2.tr = 0 ∧ (dClear d i).2.b i.toNat = [] := by
  unfold dClear
  rw [if_neg hi, if_neg (by omega)]
  exact ⟨rfl, by show d.tr - 1 = 0; omega, upd_at _ _ _⟩
theorem calm_add {d : DvN} (h : d.tr = 0) {i : Int} (hi : ¬ (i < 0 ∨ 2 ≤ i)) (s : List UInt8) (hs : (d.b i.toNat).length + s.length ≤ 1500) : (dAdd d i s).1 = 0 ∧ (dAdd d i s).2.tr = 0 := by
  unfold dAdd
  rw [if_neg hi, if_neg (by omega), if_neg (by omega)]
  exact ⟨rfl, by show d.tr - 1 = 0; omega⟩
theorem open_calm {z : List Int} (k : Int) {d : DvN} (h : d.tr = 0) (h0 : (d.b 0).length ≤ 11) (h1 : (d.b 1).length ≤ 11) : (openE dOps (newG k z) d).1 = 0 := by
  have n0 : ¬ ((0 : Int) < 0 ∨ (2 : Int) ≤ 0) := by omega
  have n1 : ¬ ((1 : Int) < 0 ∨ (2 : Int) ≤ 1) := by omega
  obtain ⟨a1, a2, a3⟩ := calm_sync h n0
  obtain ⟨b1, b2, b3⟩ := calm_sync a2 n1
  obtain ⟨c1, c2, c3, c4⟩ := calm_read b2 n0
  obtain ⟨e1, e2, e3, e4⟩ := calm_read c2 n1
  have s0 : scan (dRead (dSync (dSync d 0).2 1).2 0).1 = ar0 := scan_short (by rw [c4, b3, a3]; exact h0)
  have s1 : scan (dRead (dRead (dSync (dSync d 0).2 1).2 0).2.2 1).1 = ar0 := scan_short (by rw [e4, c3, b3, a3]; exact h1)
  unfold openE
  rw [readE_d, if_pos a1, if_pos b1, if_pos c1, if_pos e1]
  simp only [if_true]
  unfold findE
  rw [s0, s1, if_pos (show (cur2 ar0 ar0).2 = 0 by decide)]
  generalize (dRead (dRead (dSync (dSync d 0).2 1).2 0).2.2 1).2.2 = D at *
  obtain ⟨f1, f2, f3⟩ := calm_clear (d := D) e2 n0
  have hfr : (frE { newG k z with ar := 1 }).length ≤ 1500 := by
    have q := anewT_len 1 []
    show (anewT 1 []).length ≤ 1500
    simp at q
    omega
  obtain ⟨g1, g2⟩ := calm_add f2 n0 (frE { newG k z with ar := 1 }) (by rw [f3]; simpa using hfr)
  obtain ⟨i1, _, _⟩ := calm_sync g2 n0
  have hlay : (layE dOps { newG k z with ar := 1 } (dClear D 0).2 0 (frE { newG k z with ar := 1 })).1 = 0 := by
    rw [layE_d, if_pos g1, if_pos i1]
  unfold anewE
  rw [if_neg (by show ¬ 4294967295 < 0 + 1; omega), if_neg (Nat.not_lt.2 hfr)]
  have e0 : (dOps.clear D ((0 : Nat) : Int)) = dClear D 0 := rfl
  rw [e0, if_pos f1]
  have e9 : ((0 : Nat) : Int) = 0 := rfl
  rw [e9, if_pos hlay]
end Go.Proofs.YtmmflekajbeamaaGreatDoor

namespace Go.Proofs.YtmmflekajbeamaaGreatDoor
open Go.RowKit Go.Maps Go.WideMaps

/-- The bench's cells, all zero. -/
def bnC0 : Array Value := (#[.pointer none, .pointer none] ++ S zeroZ) ++ #[.slice none 0 0]
def bnPl : Array (Nat × Nat) := #[(0, 1), (1, 1), (2, 138), (140, 1)]
set_option maxRecDepth 100000 in
theorem placesB : (match Tryz.prog.underlying 59 with | some (.struct fs) => fs.toList.mapM (fun f => (Tryz.prog.info? f.type).map fun i => (f.offset, i.size)) | _ => none) = some bnPl.toList := by kernel_rfl
set_option maxRecDepth 100000 in
theorem infoBn : ∃ i, Tryz.prog.info? 59 = some i ∧ i.zero = some (.agg bnC0) := by
  have h : (Tryz.prog.info? 59).map (fun i => i.zero) = some (some (.agg bnC0)) := by kernel_rfl
  cases hq : Tryz.prog.info? 59 with
  | none => rw [hq] at h; cases h
  | some i =>
    rw [hq] at h
    simp only [Option.map_some, Option.some.injEq] at h
    exact ⟨i, rfl, h⟩
set_option maxRecDepth 100000 in
theorem builtBn (parts : List (Nat × Value)) : Tryz.prog.built 59 parts = Instr.fill (fun x => bnPl[x]?) bnC0 parts := by
  obtain ⟨i, hi, hz⟩ := infoBn
  have hp := placesB
  unfold Program.built
  rw [hi]
  rw [Tryz.underlying59] at hp ⊢
  simp only [hz] at hp ⊢
  rw [hp]
  rfl
theorem bnC0_size : bnC0.size = 141 := by unfold bnC0; simp [S_size, zeroZ]
def bnC (X Y : Nat) (z : List Int) : Array Value := layA 2 (S z) (layA 1 #[.pointer (some ⟨Y, 0, none⟩)] (layA 0 #[.pointer (some ⟨X, 0, none⟩)] bnC0))
theorem bnC_get (X Y : Nat) (z : List Int) (hz : z.length = 138) (j : Nat) : (bnC X Y z).size = 141 ∧ (bnC X Y z)[j]? = if 2 ≤ j ∧ j < 140 then (S z)[j - 2]? else if j = 1 then some (.pointer (some ⟨Y, 0, none⟩)) else if j = 0 then some (.pointer (some ⟨X, 0, none⟩)) else bnC0[j]? := by
  have s0 := bnC0_size
  have e1 : (layA 0 #[.pointer (some ⟨X, 0, none⟩)] bnC0).size = 141 := by rw [layA_size _ _ _ (by rw [s0]; simp), s0]
  have e2 : (layA 1 #[.pointer (some ⟨Y, 0, none⟩)] (layA 0 #[.pointer (some ⟨X, 0, none⟩)] bnC0)).size = 141 := by rw [layA_size _ _ _ (by rw [e1]; simp), e1]
  have zs : (S z).size = 138 := by rw [S_size, hz]
  unfold bnC
  refine ⟨by rw [layA_size _ _ _ (by rw [e2, zs]; decide), e2], ?_⟩
  rw [layA_get _ _ _ (by rw [e2, zs]; decide), zs]
  by_cases h1 : 2 ≤ j ∧ j < 140
  · rw [if_pos (by omega), if_pos h1]
  · rw [if_neg (by omega), if_neg h1, layA_get _ _ _ (by rw [e1]; simp)]
    by_cases h2 : j = 1
    · subst h2; rfl
    · rw [if_neg (by simp; omega), if_neg h2, layA_get _ _ _ (by rw [s0]; simp)]
      by_cases h3 : j = 0
      · subst h3; rfl
      · rw [if_neg (by simp; omega), if_neg h3]
theorem bnC0_last : bnC0[140]? = some (.slice none 0 0) := by
  unfold bnC0
  have hs : (#[Value.pointer none, .pointer none] ++ S zeroZ).size = 140 := by simp [S_size, zeroZ]
  rw [Array.getElem?_append_right (by rw [hs]; decide), hs]
  rfl
theorem build_bn (X Y : Nat) (z : List Int) (hz : z.length = 138) (w : World) : (Instr.build 59 #[(0, .pointer (some ⟨X, 0, none⟩)), (1, .pointer (some ⟨Y, 0, none⟩)), (2, .agg (S z))]).run Tryz.prog w = .ok (.agg (bnC X Y z)) w := by
  refine run_build w 59 _ _ ?_
  have s0 := bnC0_size
  have e1 : (layA 0 #[.pointer (some ⟨X, 0, none⟩)] bnC0).size = 141 := by rw [layA_size _ _ _ (by rw [s0]; simp), s0]
  have e2 : (layA 1 #[.pointer (some ⟨Y, 0, none⟩)] (layA 0 #[.pointer (some ⟨X, 0, none⟩)] bnC0)).size = 141 := by rw [layA_size _ _ _ (by rw [e1]; simp), e1]
  have zs : (S z).size = 138 := by rw [S_size, hz]
  rw [builtBn]
  show Instr.fill _ _ [(0, _), (1, _), (2, _)] = _
  rw [fill_one _ _ 0 _ _ 0 1 rfl rfl (by rw [s0]; decide), fill_one _ _ 1 _ _ 1 1 rfl rfl (by rw [show (Value.pointer (some ⟨X, 0, none⟩)).cells = #[.pointer (some ⟨X, 0, none⟩)] from rfl, e1]; decide)]
  rw [fill_one _ _ 2 (.agg (S z)) _ 2 138 rfl zs (by rw [show (Value.pointer (some ⟨X, 0, none⟩)).cells = #[.pointer (some ⟨X, 0, none⟩)] from rfl, show (Value.pointer (some ⟨Y, 0, none⟩)).cells = #[.pointer (some ⟨Y, 0, none⟩)] from rfl, e2]; decide)]
  rfl
theorem wpList_build3 {ops : Array Oper} {rest : List Oper} {o : Oper} {a : Act} {w : World} {Q : Exit → Act → World → Prop} (hg : o.guard = none) (ty : TypeId) (i j k : Nat) (x y z : Operand) (ho : o.op = .build ty #[(i, x), (j, y), (k, z)])
    (u v t r : Value) (hx : a.eval x = u) (hy : a.eval y = v) (hz : a.eval z = t) (hr : (Instr.build ty #[(i, u), (j, v), (k, t)]).run Tryz.prog w = .ok r w)
    (h : wpList Tryz.prog ops Q rest (a.put o.dst r) w) : wpList Tryz.prog ops Q (o :: rest) a w :=
  wpList_plain hg fun _ hK => wp_build3 ty i j k x y z ho u v t r hx hy hz hr (hK _ _ h)
/-- What a start over a new device comes to. -/
def op0 (z : List Int) : Int × EgN × DvN := openE dOps (newG 1 z) (engD dv0)
structure O0 (z : List Int) (R : Int × EgN × DvN) : Prop where
  ok : R.1 = 0
  dv : DvOK R.2.2
  wk : R.2.2.wk = 1
  z : R.2.1.z = z
  gk : GOK R.2.1 1500
theorem wrap_one : wrap64 (0 + 1) = 1 := by unfold wrap64; omega
theorem op0_ok {z : List Int} (hz : RunOK z) : O0 z (op0 z) := by
  unfold op0
  exact ⟨open_calm 1 (d := engD dv0) rfl (Nat.zero_le _) (Nat.zero_le _), open_clo clo_ok _ _ (fun _ _ => Nat.le_refl _), open_clo (clo_wk 1) _ _ wrap_one, openE_z _ _ _, GOK.open hz 1 (engD dv0) (fun _ _ => Nat.zero_le _)⟩
/-- What bench leaves. -/
def BcFin (z : List Int) (R : Int × EgN × DvN) (w : World) (B : Nat) (w' : World) : Prop := ∃ b e, BnAt w.heap.size B b (some e) 1 1500 w' ∧ Below w.heap.size w w' ∧ b.z = z ∧ b.d = R.2.2 ∧ e.g = R.2.1 ∧ b.mv = .slice none 0 0
theorem bc_end {z : List Int} {R : Int × EgN × DvN} (hR : O0 z R) {w W0 w1 w2 W3 : World} (hz : RunOK z) (hW0 : Below w.heap.size w W0) (hb1 : Below W0.heap.size W0 w1) (hs1 : w1.heap.size = W0.heap.size + 2) (hx1 : XAt (W0.heap.size + 1) W0.heap.size w1) {vs' : Nat → Value} (hd : DvAt W0.heap.size R.2.2 vs' w2) (hc : Chg (dHas W0.heap.size nilV) w1 w2) (vo : ∀ x, dHas W0.heap.size vs' x → dHas W0.heap.size nilV x ∨ w1.heap.size ≤ x) {X E : Nat} {m1 v1 : Nat → Value} (hX : w1.heap.size ≤ X) (hxa : XAt X E w2) (hea : EdAt E W0.heap.size R.2.1 R.2.2 m1 v1 vs' w2) (hef : ∀ x, eHas E m1 v1 x → w1.heap.size ≤ x ∧ x ≠ X) (hdx : ∀ x, dHas W0.heap.size vs' x → x ≠ X)
    (hW3 : W3 = w2.alloc (.cells (bnC (W0.heap.size + 1) X z) 59)) : BcFin z R w w2.heap.size W3 := by
  have hz2 := hc.size
  have h00 := hW0.size
  have hb3 : Below w2.heap.size w2 W3 := by rw [hW3]; exact (Below.refl _ _).alloc (Nat.le_refl _) _
  have r : W3.heap[w2.heap.size]? = some (.cells (bnC (W0.heap.size + 1) X z) 59 (0, 0)) := by rw [hW3, _root_.Go.heap_alloc_new]
  have hc3 : ∀ j, W3.cell? ⟨w2.heap.size, j, none⟩ = (bnC (W0.heap.size + 1) X z)[j]? := fun j => cell_row r j
  have hwk := hR.wk
  have hX2 : X < w2.heap.size := block_lt_of_cell hxa
  have nD1 : ∀ x, dHas W0.heap.size nilV x → x = W0.heap.size := fun x q => by
    rcases q with q | ⟨i, _, q⟩
    · exact q
    · cases q
  have hx2 : XAt (W0.heap.size + 1) W0.heap.size w2 := (World.cell?_of_block (hc.other _ (by show W0.heap.size + 1 < _; omega) (fun q => by have := nD1 _ q; have q' : W0.heap.size + 1 = W0.heap.size := this; omega))).trans hx1
  have hdv : ∀ x, dHas W0.heap.size vs' x → x = W0.heap.size ∨ w1.heap.size ≤ x := fun x q => (vo x q).imp (nD1 x) id
  have hk : ∀ x, x < w2.heap.size → W3.heap[x]? = w2.heap[x]? := fun x q => hb3.block x q
  have hbel : Below w.heap.size w W3 := by
    have hb2 : Below w.heap.size w1 w2 := hc.below (by omega) (fun x q => by have := nD1 x q; omega)
    exact ((hW0.trans (hb1.mono h00)).trans hb2).trans (hb3.mono (by omega))
  refine ⟨⟨W0.heap.size + 1, W0.heap.size, R.2.2, vs', z, .slice none 0 0⟩, ⟨X, E, R.2.1, m1, v1⟩, ⟨⟨?_, fun j => ?_, ?_, ?_, fun j u q => ?_, ?_, ?_, ?_, ?_, ?_, hz, ⟨by omega, fun x q => ?_⟩, fun q => ?_, fun q => ?_⟩, fun q => (by cases q), fun e q => ?_⟩, hbel, rfl, rfl, rfl, rfl⟩
  · exact (Array.getElem?_eq_some_iff.1 r).1
  · unfold World.frozen?; rw [r]; simp
  · rw [hc3, (bnC_get _ _ z hz.len 0).2]; rfl
  · exact ⟨_, by rw [hc3, (bnC_get _ _ z hz.len 1).2]; rfl⟩
  · have hj : j < 138 := by have := (List.getElem?_eq_some_iff.1 q).1; rw [List.length_map, hz.len] at this; exact this
    rw [hc3, (bnC_get _ _ z hz.len (2 + j)).2, if_pos (by omega), Nat.add_sub_cancel_left, ← q]
    unfold S
    simp
  · rw [hc3, (bnC_get _ _ z hz.len 140).2, if_neg (by omega), if_neg (by omega), if_neg (by omega)]
    exact bnC0_last
  · exact (World.cell?_of_block (hk _ (by show W0.heap.size + 1 < _; omega))).trans hx2
  · exact hd.kept hb3.size (fun x q => hk x (hd.has q).2)
  · exact hR.dv
  · show 0 ≤ R.2.2.wk ∧ R.2.2.wk ≤ ((1 : Nat) : Int)
    rw [hwk]
    decide
  · rcases q with q | q
    · have q' : x = W0.heap.size + 1 := q; omega
    · rcases hdv x q with c | c <;> omega
  · rcases q with q | q
    · have q' : w2.heap.size = W0.heap.size + 1 := q; omega
    · have := (hd.has q).2; omega
  · rcases hdv _ q with c | c
    · have c' : W0.heap.size + 1 = W0.heap.size := c; omega
    · have c' : w1.heap.size ≤ W0.heap.size + 1 := c; omega
  · cases q
    refine ⟨by rw [hc3, (bnC_get _ _ z hz.len 1).2]; rfl, (World.cell?_of_block (hk _ hX2)).trans hxa, hea.eg.kept (fun x q => hk x (hea.eg.has q).2), ?_, hR.z, fun x q => ?_, fun q => ?_, fun q => (hef X q).2 rfl, fun x q1 q2 => ?_⟩
    · exact hR.gk
    · rcases q with q | q
      · have q' : x = X := q; omega
      · have := (hef x q).1; omega
    · rcases q with q | q
      · have q' : w2.heap.size = X := q; omega
      · have := (hea.eg.has q).2; omega
    · have hx1' : w1.heap.size ≤ x := by
        rcases q1 with q1 | q1
        · have q1' : x = X := q1; omega
        · exact (hef x q1).1
      rcases q2 with q2 | q2
      · have q2' : x = W0.heap.size + 1 := q2; omega
      · rcases q1 with q1 | q1
        · exact hdx x q2 q1
        · exact hea.sep x q1 q2
set_option maxRecDepth 100000 in
set_option maxHeartbeats 4000000 in
theorem bench_any (z : List Int) (w : World) (hz : RunOK z) (ht : Tab w) :
    Calls Tryz.prog 8 #[.agg (S z)] w fun e' w' => ∃ B, e' = .returned (.pointer (some ⟨B, 0, none⟩)) ∧ BcFin z (op0 z) w B w' := by
  obtain ⟨W0, hW0⟩ : ∃ W0, W0 = w.alloc (.cells (S z) 28) := ⟨_, rfl⟩
  have hb0 : Below w.heap.size w W0 := by rw [hW0]; exact (Below.refl _ _).alloc (Nat.le_refl _) _
  have hs0 : W0.heap.size = w.heap.size + 1 := by rw [hW0, size_alloc1]
  have r0 : RowI W0 w.heap.size 28 z := by unfold RowI; rw [hW0, _root_.Go.heap_alloc_new]
  have HND := hide (newDevice_any W0)
  have hzl := hz.len
  have HZ := hide hz; have HB0 := hide hb0; have HR0 := hide r0; have HT := hide ht; have HW0 := hide hW0
  have HBd := hide (fun X Y w' => build_bn X Y z hzl w')
  have szl := zlen z hzl
  have HS0 := hide hs0
  clear hz ht hb0 r0 hW0 hs0
  go_enter Tryz.func8, Tryz.ntmps8
  go_upto_region 1 with fail
  rw [← HW0.out]
  go_wp2_with fail
  refine (unhide HND).mono ?_
  rintro e w1 ⟨rfl, hd1, hx1, hs1, hb1⟩
  have r1 : RowI w1 w.heap.size 28 z := HR0.out.keep (hb1.block _ HR0.out.lt)
  have g1 := range_row r1 0 138 (by omega)
  rw [List.drop_zero, List.take_of_length_le (by omega)] at g1
  have HSt := hide (cStart_any (W0.heap.size + 1) W0.heap.size dv0 nilV z w1 hx1 hd1 (HT.out.below HT.out.pos (HB0.out.trans (hb1.mono (by have := HS0.out; omega)))) hzl HZ.out.st)
  have HX1 := hide hx1; have HS1 := hide hs1; have HB1 := hide hb1; have HR1 := hide r1
  clear hd1 hx1 hs1 hb1 r1 HND
  go_wp2_with (refine wpList_load_mid rfl 28 _ rfl w.heap.size 0 rfl (z.map (Value.int .i64)) _ g1 Tryz.underlying28 rfl szl ?_)
  refine (unhide HSt).mono ?_
  rintro e w2 ⟨vs', hd, hc, vo, hres⟩
  have e1 : wrap64 (dv0.wk + 1) = 1 := wrap_one
  have hop : openE dOps (newG 1 z) (engD dv0) = op0 z := by unfold op0; rfl
  rw [e1, hop] at hd hres
  have HO := hide (op0_ok HZ.out)
  obtain ⟨R, hR⟩ : ∃ R, R = op0 z := ⟨_, rfl⟩
  rw [← hR] at hd hres HO
  have HRe := hide hR
  clear hR
  rcases hres with ⟨hn, _⟩ | ⟨_, X, E, m1, v1, hE, hX, rfl, hxa, hea, hef, hdx⟩
  · exact absurd HO.out.ok hn
  have hws : w.heap.size < w1.heap.size := HR1.out.lt
  have r2 : RowI w2 w.heap.size 28 z := HR1.out.keep (hc.other _ hws (fun q => by
    rcases q with q | ⟨i, _, q⟩
    · have := HS0.out; omega
    · cases q))
  have g2 := range_row r2 0 138 (by omega)
  rw [List.drop_zero, List.take_of_length_le (by omega)] at g2
  have HEnd : Hid (∀ W3, W3 = w2.alloc (.cells (bnC (W0.heap.size + 1) X z) 59) → BcFin z R w w2.heap.size W3) := fun W3 e => bc_end HO.out HZ.out HB0.out HB1.out HS1.out HX1.out hd hc vo hX hxa hea hef hdx e
  clear hd hc vo hE hX hxa hea hef hdx r2 g1 HSt e1 hop
  go_upto_region 7 with fail
  go_wp2_with (first
    | (refine wpList_load_midZ rfl 28 _ rfl w.heap.size 0 rfl z _ g2 Tryz.underlying28 rfl szl ?_)
    | (refine wpList_build3 rfl 59 0 1 2 _ _ _ rfl (.pointer (some ⟨W0.heap.size + 1, 0, none⟩)) (.pointer (some ⟨X, 0, none⟩)) (.agg (S z)) (.agg (bnC (W0.heap.size + 1) X z)) rfl rfl rfl (HBd.out _ _ _) ?_))
  go_ret
  exact ⟨w2.heap.size, rfl, by rw [← HRe.out]; exact HEnd.out _ rfl⟩
end Go.Proofs.YtmmflekajbeamaaGreatDoor
