/-
  The engine's book: a plan is laid in (book.lay), where the words are not there yet.
  Frames: a frame is taken (take).
-/
import Derived.Test.YtmmflekajbeamabGreatDoorW17
import Derived.Test.YtmmflekajbeamabGreatDoorW16
namespace Go.Proofs.YtmmflekajbeamabGreatDoor
open Go.RowKit Go.Maps Go.WideMaps

theorem bkCs_len (l : List KwN) : (bkCs l).length = l.length * 2 := by
  induction l with
  | nil => rfl
  | cons k l ih => rw [bkCs_cons, List.length_cons, List.length_cons, ih, List.length_cons]; omega
def LayPost (B N o : Nat) (l' : List KwN) (mv v : Value) (w : World) (e' : Ending) (w' : World) : Prop :=
  e' = .returned (.tuple #[]) ∧ ∃ mv' v', BoAt B N o l' mv' v' w' ∧ BFr B N o mv v w w' ∧ ∀ g, bkHas mv' v' g → bkHas mv v g ∨ w.heap.size ≤ g
set_option maxRecDepth 100000 in
set_option maxHeartbeats 4000000 in
theorem lay_some (B N o : Nat) (l : List KwN) (b : Nat) (v : Value) (ws : List Nat) (p : ByteArray) (w : World) (h : BoAt B N o l (.map (some b)) v w) (hBN : B ≤ N) (hf : ∀ j, w.frozen? ⟨N, j, none⟩ = false) (hw : wOK ws) (hn : ws ∉ bkW l) (hl : l.length ≤ 1000000000000) :
    Calls Tryz.prog 184 #[.pointer (some ⟨N, o, none⟩), .agg (S (wdZ ws)), .string p] w (LayPost B N o (l ++ [(ws, lst p)]) (.map (some b)) v w) := by
  have hNw := h.lt
  have HL := hide hl; have HWs := hide hw; have HNo := hide hn; have HBN := hide hBN
  have cw0 := h.c0
  obtain ⟨X, hX⟩ : ∃ X, X = w.heap.size := ⟨_, rfl⟩
  have HX : Hid (¬ bkHas (.map (some b)) v X) := fun q => by have := (h.has q).2.1; omega
  obtain ⟨W, hW⟩ : ∃ W, W = w.alloc (.cells (S (wdZ ws)) 131) := ⟨_, rfl⟩
  have hrow : W.heap[X]? = some (.cells (S (wdZ ws)) 131 (0, 0)) := by rw [hW, hX, _root_.Go.heap_alloc_new]
  have hbW : Below w.heap.size w W := by rw [hW]; exact (Below.refl _ _).alloc (Nat.le_refl _) _
  have HW := hide (h.up hbW)
  have HF : Hid (∀ j, W.frozen? ⟨N, j, none⟩ = false) := fun j => (World.frozen?_of_block (hbW.block N hNw)).trans (hf j)
  have HFin : Hid (∀ W', BFr B N o (.map (some b)) v W W' → BFr B N o (.map (some b)) v w W') := fun W' k => (BFr.above (Nat.le_trans hBN (Nat.le_of_lt hNw)) hNw hbW).trans (fun g q => .inl q) k
  have HOwn : Hid (∀ g, bkHas (.map (some b)) v g → bkHas (.map (some b)) v g ∨ w.heap.size ≤ g) := fun g q => .inl q
  have HWz := hide hbW.size
  have me := map_eqn b
  have HWe := hide hW; have HXe := hide hX
  clear h hbW hf hn hw hl hBN hX hW
  have c0 := HW.out.c0; have c1 := HW.out.c1
  have g0 := HF.out o; have g1 := HF.out (o + 1)
  obtain ⟨D, hown, htok⟩ : ∃ D, W.ownsMap Tryz.prog 131 (plainElem Tryz.prog 3) b l.length D ∧ BoOK D (bkW l) := by
    rcases HW.out.mp with ⟨q, _⟩ | ⟨b', D, q, _, hm, ht⟩
    · cases q
    · cases q; exact ⟨D, hm, ht⟩
  obtain ⟨va, vc, hv⟩ := owns_len HW.out.ls
  obtain ⟨x, hrun⟩ : ∃ x, (Instr.lookup 102 (.map (some b)) (.agg (S (wdZ ws))) true).run Tryz.prog W.drew = .ok (.tuple #[x, .bool false]) W.drew := by
    obtain ⟨x, ps', hrun, hx⟩ := (hown.drew).look_ok lawW Tryz.underlying102 (zeroI _) (plainElem_int (H := Unit) Tryz.underlying3 (a := 0) (by decide)) (keyOfWs HWs.out)
    have hf : Maps.has D (kW ws) = false := by
      cases hq : Maps.has D (kW ws)
      · rfl
      · exact absurd ((htok ws HWs.out).1.1 hq) HNo.out
    rw [hf] at hrun
    exact ⟨x, hrun⟩
  have HK := hide (keyOfWs HWs.out)
  have HTk := hide (htok.add hown.isMap HWs.out HNo.out)
  have HOd := hide (hown.drew.drew)
  have hl' : l.length < maxLen := by have := HL.out; unfold maxLen; omega
  have hw64 : (Lit.int .i64 (l.length : Int)).wf = true := by
    have := HL.out
    refine WalkArith.wf_i64 ?_ <;> omega
  have HW64 := hide hw64; have HL' := hide hl'
  have HTx := hide (fun w' => wdText_any ws w' HWs.out.1 HWs.out.2)
  obtain ⟨inf, hinf, hz, hsz1, hby⟩ := infoKn
  have HInf := hide hinf; have HZ := hide hz; have HSz := hide hsz1; have HBy := hide hby
  have HV := hide hv
  rw [hv] at c1
  have hXb : X ≠ b := fun e => HX.out (.inl (by rw [e]))
  have hXo : some X ≠ (Value.slice va l.length vc).ownBlock := fun e => HX.out (.inr (by rw [HV.out, ← e]))
  have hbw : bkW l = bkW l := rfl
  have HLw : Hid ((bkW l).length = l.length) := by unfold Hid bkW; simp
  have hN : N < W.heap.size := HW.out.lt
  have hz9 := wdZ_len HWs.out.1
  clear hown htok hinf hz hsz1 hby hv hl' hw64 hbw
  generalize hLe : l.length = L at *
  have HLe := hide hLe
  clear hLe
  generalize hQ : wdZ ws = z at *
  clear hQ
  obtain ⟨a0, a1, a2, a3, a4, a5, a6, a7, a8, rfl⟩ := len9 z hz9
  simp only [S, List.map_cons, List.map_nil] at *
  have q0 : W.cell? ⟨X, 0, none⟩ = some (.int .i64 a0) := by simp [World.cell?, hrow]
  have q1 : W.cell? ⟨X, 1, none⟩ = some (.int .i64 a1) := by simp [World.cell?, hrow]
  have q2 : W.cell? ⟨X, 2, none⟩ = some (.int .i64 a2) := by simp [World.cell?, hrow]
  have q3 : W.cell? ⟨X, 3, none⟩ = some (.int .i64 a3) := by simp [World.cell?, hrow]
  have q4 : W.cell? ⟨X, 4, none⟩ = some (.int .i64 a4) := by simp [World.cell?, hrow]
  have q5 : W.cell? ⟨X, 5, none⟩ = some (.int .i64 a5) := by simp [World.cell?, hrow]
  have q6 : W.cell? ⟨X, 6, none⟩ = some (.int .i64 a6) := by simp [World.cell?, hrow]
  have q7 : W.cell? ⟨X, 7, none⟩ = some (.int .i64 a7) := by simp [World.cell?, hrow]
  have q8 : W.cell? ⟨X, 8, none⟩ = some (.int .i64 a8) := by simp [World.cell?, hrow]
  clear hrow
  go_enter Tryz.func184, Tryz.ntmps184
  go_wp2_with fail
  have hww := HWe.out; have hxx := HXe.out
  rw [← hww, ← hxx]
  clear hww hxx cw0 hNw me
  refine still_all (by kernel_rfl) (by kernel_rfl) ?_
  repeat still_step
  refine wpStill_nil ?_
  go_wp2_with fail
  refine still_tail 6 (by kernel_rfl) (by kernel_rfl) ?_
  simp only [List.take_succ_cons, List.take_zero, List.drop_succ_cons, List.drop_zero]
  repeat still_step
  refine wpStill_nil ?_
  go_wp2_with (at_mapUpdate; refine wpList_mapUpdate_own _ rfl _ _ _ 102 rfl 131 3 lawW Tryz.underlying102 _ b L D rfl HOd.out HL'.out _ _ (kW ws) rfl rfl HK.out (.lit (.int .i64 (L : Int))) [] (plainElem_int Tryz.underlying3 HW64.out) ?_; intro w3 hown3 hgr3; have H3 := hide hown3; have HG3 := hide hgr3; clear hown3 hgr3)
  have hXz : X < W.heap.size := block_lt_of_cell q0
  have kk : ∀ g j, g < W.heap.size → g ≠ b → w3.cell? ⟨g, j, none⟩ = W.cell? ⟨g, j, none⟩ := fun g j h1 h2 => World.cell?_of_block (HG3.out.block g h1 (fun e => h2 (Option.some.inj e)))
  have hNb : N ≠ b := fun e => (HW.out.has (g := b) (.inl rfl)).2.2 e.symm
  have hz3 : W.heap.size ≤ w3.heap.size := HG3.out.size
  have d0 := (kk N o hN hNb).trans c0
  have d1 := (kk N (o + 1) hN hNb).trans c1
  have t0 := (kk X 0 hXz hXb).trans q0
  have t1 := (kk X 1 hXz hXb).trans q1
  have t2 := (kk X 2 hXz hXb).trans q2
  have t3 := (kk X 3 hXz hXb).trans q3
  have t4 := (kk X 4 hXz hXb).trans q4
  have t5 := (kk X 5 hXz hXb).trans q5
  have t6 := (kk X 6 hXz hXb).trans q6
  have t7 := (kk X 7 hXz hXb).trans q7
  have t8 := (kk X 8 hXz hXb).trans q8
  have HFz3 : Hid (∀ j, w3.frozen? ⟨N, j, none⟩ = false) := fun j => (World.frozen?_of_block (HG3.out.block N hN (fun e => hNb (Option.some.inj e)))).trans (HF.out j)
  have HLs : Hid (w3.ownsRow B 71 2 (.slice va L vc) L (bkCs l)) := by
    have := HW.out.ls
    rw [HV.out, HLe.out] at this
    exact ownsRow_keep this (fun g hg => HG3.out.block g (row_lt this g hg).2 (fun e => by have := HW.out.apart; rw [HV.out] at this; exact this (by rw [← Option.some.inj e]; exact hg)))
  clear hrun kk q0 q1 q2 q3 q4 q5 q6 q7 q8 c0 c1 g0 g1
  refine held_tail 6 4 (fun w' => w'.cell? ⟨N, o + 1, none⟩ = some (.slice va L vc) ∧ w'.cell? ⟨X, 0, none⟩ = some (.int .i64 a0) ∧ w'.cell? ⟨X, 1, none⟩ = some (.int .i64 a1) ∧ w'.cell? ⟨X, 2, none⟩ = some (.int .i64 a2) ∧ w'.cell? ⟨X, 3, none⟩ = some (.int .i64 a3) ∧ w'.cell? ⟨X, 4, none⟩ = some (.int .i64 a4) ∧ w'.cell? ⟨X, 5, none⟩ = some (.int .i64 a5) ∧ w'.cell? ⟨X, 6, none⟩ = some (.int .i64 a6) ∧ w'.cell? ⟨X, 7, none⟩ = some (.int .i64 a7) ∧ w'.cell? ⟨X, 8, none⟩ = some (.int .i64 a8)) (by kernel_rfl) (by kernel_rfl) (fun d _ _ _ _ h => by cases d <;> exact h) ⟨d1, t0, t1, t2, t3, t4, t5, t6, t7, t8⟩ ?_
  simp only [List.take_succ_cons, List.take_zero, List.drop_succ_cons, List.drop_zero]
  iterate 6
    refine wpTake_step ?_ rfl ?_ ?_
    rotate_left
    · rintro w' ⟨e1, f0, f1, f2, f3, f4, f5, f6, f7, f8⟩
      go_simp
      rfl
    go_simp
  refine wpTake_nil ?_
  refine wpTail_step rfl (fun K hK => ?_)
  go_simp
  refine (unhide HTx _).mono ?_
  rintro e w5 ⟨rfl, hb5⟩
  have HB5 : Hid (Below w3.heap.size w3 w5) := ((Below.refl w3.heap.size w3).drew).trans hb5
  clear hb5
  have hz5 := HB5.out.size
  have hX3 : X < w3.heap.size := Nat.lt_of_lt_of_le hXz hz3
  have hN3 : N < w3.heap.size := Nat.lt_of_lt_of_le hN hz3
  have k5 : ∀ g j, g < w3.heap.size → w5.cell? ⟨g, j, none⟩ = w3.cell? ⟨g, j, none⟩ := fun g j h1 => World.cell?_of_block (HB5.out.block g h1)
  have s1 := (k5 N (o + 1) hN3).trans d1
  have s0 := (k5 N o hN3).trans d0
  have u0 := (k5 X 0 hX3).trans t0
  have u1 := (k5 X 1 hX3).trans t1
  have u2 := (k5 X 2 hX3).trans t2
  have u3 := (k5 X 3 hX3).trans t3
  have u4 := (k5 X 4 hX3).trans t4
  have u5 := (k5 X 5 hX3).trans t5
  have u6 := (k5 X 6 hX3).trans t6
  have u7 := (k5 X 7 hX3).trans t7
  have u8 := (k5 X 8 hX3).trans t8
  clear k5 d0 d1 t0 t1 t2 t3 t4 t5 t6 t7 t8
  go_simp
  refine hK _ _ ⟨s1, u0, u1, u2, u3, u4, u5, u6, u7, u8⟩ ?_
  clear hK K
  refine wpTail_step rfl (fun K hK => ?_)
  go_simp
  refine hK _ _ ⟨s1, u0, u1, u2, u3, u4, u5, u6, u7, u8⟩ ?_
  clear hK K
  refine wpTail_step rfl (fun K hK => ?_)
  go_simp
  have hX5 : X < w5.heap.size := Nat.lt_of_lt_of_le hX3 hz5
  have hN5 : N < w5.heap.size := Nat.lt_of_lt_of_le hN3 hz5
  have k6 : ∀ ob g j, g < w5.heap.size → (w5.alloc ob).cell? ⟨g, j, none⟩ = w5.cell? ⟨g, j, none⟩ := fun ob g j h1 => World.cell?_of_block (Below.heap_alloc w5 ob g h1)
  refine hK _ _ ⟨(k6 _ N (o + 1) hN5).trans s1, (k6 _ X 0 hX5).trans u0, (k6 _ X 1 hX5).trans u1, (k6 _ X 2 hX5).trans u2, (k6 _ X 3 hX5).trans u3, (k6 _ X 4 hX5).trans u4, (k6 _ X 5 hX5).trans u5, (k6 _ X 6 hX5).trans u6, (k6 _ X 7 hX5).trans u7, (k6 _ X 8 hX5).trans u8⟩ ?_
  clear hK K
  refine wpTail_step rfl (fun K hK => ?_)
  have HO5 : Hid ((w5.alloc (.cells #[.string (bya (wdsT ws)), .string ⟨#[]⟩] 71)).ownsRow B 71 2 (.slice va L vc) L (bkCs l)) := (own_grow HLs.out HB5.out).alloc _
  refine wp_append_lies _ _ _ 37 rfl B 71 inf _ 2 32 Tryz.underlying37 HInf.out HZ.out HSz.out HBy.out rfl (by decide) (.slice va L vc) L (bkCs l) rfl HO5.out ⟨w5.heap.size, 0, none⟩ 1 1 [.string (bya (wdsT ws)), .string ⟨#[]⟩] rfl rfl (World.news_of_block (_root_.Go.heap_alloc_new w5 _)) (fun u hu => by simp at hu; rcases hu with rfl | rfl <;> rfl) (by decide) (by have := HL.out; unfold maxLen; omega) (by have := HL.out; omega) (by rw [size_alloc1]; have := HBN.out; omega) (w5.heap.size + 1) (by rw [size_alloc1]) ?_
  intro g cap w4 hown4 hgr4 hat4 hlt4
  have hNo : some N ≠ (Value.slice va L vc).ownBlock := fun q => HW.out.nv (by rw [HV.out]; exact q.symm)
  have k1 : ∀ j, w4.cell? ⟨N, j, none⟩ = w5.cell? ⟨N, j, none⟩ := fun j => by
    rw [hgr4.cell_far ⟨N, j, none⟩ (by rw [size_alloc1]; exact Nat.lt_succ_of_lt hN5) hNo]
    exact World.cell?_of_block (Below.heap_alloc w5 _ N hN5)
  have k2 : ∀ j, w4.frozen? ⟨N, j, none⟩ = false := fun j => by
    rw [hgr4.frozen_far ⟨N, j, none⟩ (by rw [size_alloc1]; exact Nat.lt_succ_of_lt hN5) hNo]
    exact (World.frozen?_of_block (w := w5) (Below.heap_alloc w5 _ N hN5)).trans ((World.frozen?_of_block (HB5.out.block N hN3)).trans (HFz3.out j))
  have k3 : ∀ j, w4.cell? ⟨X, j, none⟩ = w5.cell? ⟨X, j, none⟩ := fun j => by
    rw [hgr4.cell_far ⟨X, j, none⟩ (by rw [size_alloc1]; exact Nat.lt_succ_of_lt hX5) hXo]
    exact World.cell?_of_block (Below.heap_alloc w5 _ X hX5)
  have HE4 : Hid (∀ W', W' = w4.setCell ⟨N, o + 1, none⟩ (.slice (some ⟨g, 0, none⟩) (L + 1) cap) → BoAt B N o (l ++ [(ws, [])]) (.map (some b)) (.slice (some ⟨g, 0, none⟩) (L + 1) cap) W' ∧ BFr B N o (.map (some b)) v W W') := fun W' hW' => by
    have key := lay_end (w := W) (w0 := W.drew.drew) (w3 := w3) (w5 := w5.alloc (.cells #[.string (bya (wdsT ws)), .string ⟨#[]⟩] 71)) (w4 := w4) (W := W') HW.out HBN.out HWs.out HNo.out (((Below.refl _ _).drew).drew) HG3.out (by rw [HLe.out]; exact H3.out) (by have := HTk.out; rw [HLw.out] at this; exact this) (HB5.out.alloc hz5 _) g cap (by rw [HLe.out]; exact hown4) (by rw [HV.out]; exact hgr4) (by rw [HV.out]; rcases hat4 with q | q; exact .inl q; exact .inr (by omega)) (by rw [HLe.out]; exact hW')
    rw [HLe.out] at key
    exact key
  have HAt : Hid (v.ownBlock = some g ∨ W.heap.size ≤ g) := by unfold Hid; rw [HV.out]; rcases hat4 with q | q; exact .inl q; exact .inr (by omega)
  refine hK _ _ ⟨(k1 (o + 1)).trans s1, (k3 0).trans u0, (k3 1).trans u1, (k3 2).trans u2, (k3 3).trans u3, (k3 4).trans u4, (k3 5).trans u5, (k3 6).trans u6, (k3 7).trans u7, (k3 8).trans u8⟩ ?_
  have y1 := (k1 (o + 1)).trans s1
  have y0 := (k1 o).trans s0
  have yf := k2 (o + 1)
  have h4L : w4.frozen? ⟨g, L * 2 + 1, none⟩ = false := hown4.frozenAt _
  have h4c : ∃ u, w4.cell? ⟨g, L * 2 + 1, none⟩ = some u := ⟨_, by
    rw [hown4.cellAt (L * 2 + 1) (by omega), List.getElem?_append_right (by rw [bkCs_len, HLe.out]; omega), bkCs_len, HLe.out, show L * 2 + 1 - L * 2 = 1 by omega]
    rfl⟩
  obtain ⟨u, hu⟩ := h4c
  have hgN : g ≠ N := by
    rcases hat4 with q | q
    · exact fun e => hNo (by rw [← e]; exact q.symm)
    · omega
  clear hown4 hgr4 hat4 k1 k3 k2 s0 s1 u0 u1 u2 u3 u4 u5 u6 u7 u8 hK K k6
  unfold wpTailS
  have hL0 : ¬ (L : Int) < 0 := by omega
  have hL1 : (L : Int) < ((L + 1 : Nat) : Int) := by omega
  go_wp2_with fail
  go_end0
  obtain ⟨e1, e2⟩ := HE4.out _ rfl
  have e3 := e1.setPlan (n := l.length) (k := (ws, [])) (g := g) (c := cap) (by simp) (by rw [List.length_append, HLe.out]; rfl) (lst p)
  rw [bya_lst, HLe.out] at e3
  have own : ∀ g', bkHas (.map (some b)) (.slice (some ⟨g, 0, none⟩) (L + 1) cap) g' → bkHas (.map (some b)) v g' ∨ W.heap.size ≤ g' := fun g' q => by
    rcases q with q | q
    · exact .inl (.inl q)
    · cases q
      rcases HAt.out with a | a
      · exact .inl (.inr a)
      · exact .inr a
  have e4 : (l ++ [(ws, [])]).set L (ws, lst p) = l ++ [(ws, lst p)] := by rw [← HLe.out]; simp
  rw [e4] at e3
  refine ⟨rfl, _, _, e3.1, HFin.out _ (e2.trans own e3.2), fun g' q => ?_⟩
  rcases own g' q with a | a
  · exact HOwn.out g' a
  · exact .inr (Nat.le_trans HWz.out a)

set_option maxRecDepth 100000 in
set_option maxHeartbeats 4000000 in
theorem lay_nil (B N o : Nat) (v : Value) (ws : List Nat) (p : ByteArray) (w : World) (h : BoAt B N o [] (.map none) v w) (hBN : B ≤ N) (hf : ∀ j, w.frozen? ⟨N, j, none⟩ = false) (hw : wOK ws) :
    Calls Tryz.prog 184 #[.pointer (some ⟨N, o, none⟩), .agg (S (wdZ ws)), .string p] w (LayPost B N o ([] ++ [(ws, lst p)]) (.map none) v w) := by
  have hNw := h.lt
  have cw0 := h.c0
  obtain ⟨l, hl0⟩ : ∃ l : List KwN, l = [] := ⟨[], rfl⟩
  have HL : Hid (l.length ≤ 1000000000000) := by unfold Hid; rw [hl0]; exact Nat.zero_le _
  have HNo : Hid (ws ∉ bkW l) := by unfold Hid; rw [hl0]; exact List.not_mem_nil
  have HWs := hide hw; have HBN := hide hBN
  obtain ⟨X, hX⟩ : ∃ X, X = w.heap.size := ⟨_, rfl⟩
  obtain ⟨b, hb⟩ : ∃ b, b = w.heap.size + 1 := ⟨_, rfl⟩
  have hs0 : (w.alloc (.cells (S (wdZ ws)) 131)).heap.size = w.heap.size + 1 := size_alloc1 _ _
  have hb0 : Below w.heap.size w (w.alloc (.cells (S (wdZ ws)) 131)) := (Below.refl _ _).alloc (Nat.le_refl _) _
  obtain ⟨W, hW⟩ : ∃ W, W = ((w.setCell ⟨N, o, none⟩ (.map (some (w.heap.size + 1)))).alloc (.cells (S (wdZ ws)) 131)).alloc (.map #[] 0) := ⟨_, rfl⟩
  have hW' : W = ((w.alloc (.cells (S (wdZ ws)) 131)).alloc (.map #[] 0)).setCell ⟨N, o, none⟩ (.map (some (w.heap.size + 1))) := by rw [hW, World.setCell_alloc_swap _ _ _ _ hNw, World.setCell_alloc_swap _ _ _ _ (by show N < _; rw [size_alloc1]; omega)]
  have made := h.made hBN hb0 W (by rw [hW', hs0])
  rw [hs0, ← hb] at made
  have HX : Hid (¬ bkHas (.map (some b)) v X) := fun q => by
    rcases q with q | q
    · cases q; omega
    · have := (row_lt h.ls X q).2; omega
  have hrow : W.heap[X]? = some (.cells (S (wdZ ws)) 131 (0, 0)) := by rw [hW', set_other (by omega), Below.heap_alloc _ _ _ (by rw [hs0]; omega), hX, _root_.Go.heap_alloc_new]
  have HW : Hid (BoAt B N o l (.map (some b)) v W) := by unfold Hid; rw [hl0]; exact made.1
  have HF : Hid (∀ j, W.frozen? ⟨N, j, none⟩ = false) := fun j => (made.2.fz j).trans (hf j)
  have HOwn : Hid (∀ g, bkHas (.map (some b)) v g → bkHas (.map none) v g ∨ w.heap.size ≤ g) := fun g q => by
    rcases q with q | q
    · cases q; exact .inr (by omega)
    · exact .inl (.inr q)
  have HFin : Hid (∀ W', BFr B N o (.map (some b)) v W W' → BFr B N o (.map none) v w W') := fun W' k => made.2.trans HOwn.out k
  have HWz : Hid (w.heap.size ≤ W.heap.size) := made.2.below.size
  have me := map_eq0
  have mk : ∀ w, (Instr.makeMap 102 none).run Tryz.prog w = .ok (.map (some w.heap.size)) (w.alloc (.map #[] 0)) := fun w => rfl
  have gw0 := hf o
  have HWe := hide hW; have HXe := hide hX
  have hNz : ¬ N = w.heap.size := by omega
  suffices HH : Calls Tryz.prog 184 #[.pointer (some ⟨N, o, none⟩), .agg (S (wdZ ws)), .string p] w (LayPost B N o (l ++ [(ws, lst p)]) (.map none) v w) by rw [hl0] at HH; exact HH
  clear h hf hw hBN hX hW hW' hs0 hb0 made hl0 hb
  have c0 := HW.out.c0; have c1 := HW.out.c1
  have g0 := HF.out o; have g1 := HF.out (o + 1)
  obtain ⟨D, hown, htok⟩ : ∃ D, W.ownsMap Tryz.prog 131 (plainElem Tryz.prog 3) b l.length D ∧ BoOK D (bkW l) := by
    rcases HW.out.mp with ⟨q, _⟩ | ⟨b', D, q, _, hm, ht⟩
    · cases q
    · cases q; exact ⟨D, hm, ht⟩
  obtain ⟨va, vc, hv⟩ := owns_len HW.out.ls
  obtain ⟨x, hrun⟩ : ∃ x, (Instr.lookup 102 (.map (some b)) (.agg (S (wdZ ws))) true).run Tryz.prog W.drew = .ok (.tuple #[x, .bool false]) W.drew := by
    obtain ⟨x, ps', hrun, hx⟩ := (hown.drew).look_ok lawW Tryz.underlying102 (zeroI _) (plainElem_int (H := Unit) Tryz.underlying3 (a := 0) (by decide)) (keyOfWs HWs.out)
    have hf : Maps.has D (kW ws) = false := by
      cases hq : Maps.has D (kW ws)
      · rfl
      · exact absurd ((htok ws HWs.out).1.1 hq) HNo.out
    rw [hf] at hrun
    exact ⟨x, hrun⟩
  have HK := hide (keyOfWs HWs.out)
  have HTk := hide (htok.add hown.isMap HWs.out HNo.out)
  have HOd := hide (hown.drew.drew)
  have hl' : l.length < maxLen := by have := HL.out; unfold maxLen; omega
  have hw64 : (Lit.int .i64 (l.length : Int)).wf = true := by
    have := HL.out
    refine WalkArith.wf_i64 ?_ <;> omega
  have HW64 := hide hw64; have HL' := hide hl'
  have HTx := hide (fun w' => wdText_any ws w' HWs.out.1 HWs.out.2)
  obtain ⟨inf, hinf, hz, hsz1, hby⟩ := infoKn
  have HInf := hide hinf; have HZ := hide hz; have HSz := hide hsz1; have HBy := hide hby
  have HV := hide hv
  rw [hv] at c1
  have hXb : X ≠ b := fun e => HX.out (.inl (by rw [e]))
  have hXo : some X ≠ (Value.slice va l.length vc).ownBlock := fun e => HX.out (.inr (by rw [HV.out, ← e]))
  have hbw : bkW l = bkW l := rfl
  have HLw : Hid ((bkW l).length = l.length) := by unfold Hid bkW; simp
  have hN : N < W.heap.size := HW.out.lt
  have hz9 := wdZ_len HWs.out.1
  clear hown htok hinf hz hsz1 hby hv hl' hw64 hbw
  generalize hLe : l.length = L at *
  have HLe := hide hLe
  clear hLe
  generalize hQ : wdZ ws = z at *
  clear hQ
  obtain ⟨a0, a1, a2, a3, a4, a5, a6, a7, a8, rfl⟩ := len9 z hz9
  simp only [S, List.map_cons, List.map_nil] at *
  have q0 : W.cell? ⟨X, 0, none⟩ = some (.int .i64 a0) := by simp [World.cell?, hrow]
  have q1 : W.cell? ⟨X, 1, none⟩ = some (.int .i64 a1) := by simp [World.cell?, hrow]
  have q2 : W.cell? ⟨X, 2, none⟩ = some (.int .i64 a2) := by simp [World.cell?, hrow]
  have q3 : W.cell? ⟨X, 3, none⟩ = some (.int .i64 a3) := by simp [World.cell?, hrow]
  have q4 : W.cell? ⟨X, 4, none⟩ = some (.int .i64 a4) := by simp [World.cell?, hrow]
  have q5 : W.cell? ⟨X, 5, none⟩ = some (.int .i64 a5) := by simp [World.cell?, hrow]
  have q6 : W.cell? ⟨X, 6, none⟩ = some (.int .i64 a6) := by simp [World.cell?, hrow]
  have q7 : W.cell? ⟨X, 7, none⟩ = some (.int .i64 a7) := by simp [World.cell?, hrow]
  have q8 : W.cell? ⟨X, 8, none⟩ = some (.int .i64 a8) := by simp [World.cell?, hrow]
  clear hrow
  go_enter Tryz.func184, Tryz.ntmps184
  go_wp2_with fail
  have hww := HWe.out; have hxx := HXe.out
  rw [← hww, ← hxx]
  clear hww hxx cw0 gw0 hNw me mk hNz
  refine still_all (by kernel_rfl) (by kernel_rfl) ?_
  repeat still_step
  refine wpStill_nil ?_
  go_wp2_with fail
  refine still_tail 6 (by kernel_rfl) (by kernel_rfl) ?_
  simp only [List.take_succ_cons, List.take_zero, List.drop_succ_cons, List.drop_zero]
  repeat still_step
  refine wpStill_nil ?_
  go_wp2_with (at_mapUpdate; refine wpList_mapUpdate_own _ rfl _ _ _ 102 rfl 131 3 lawW Tryz.underlying102 _ b L D rfl HOd.out HL'.out _ _ (kW ws) rfl rfl HK.out (.lit (.int .i64 (L : Int))) [] (plainElem_int Tryz.underlying3 HW64.out) ?_; intro w3 hown3 hgr3; have H3 := hide hown3; have HG3 := hide hgr3; clear hown3 hgr3)
  have hXz : X < W.heap.size := block_lt_of_cell q0
  have kk : ∀ g j, g < W.heap.size → g ≠ b → w3.cell? ⟨g, j, none⟩ = W.cell? ⟨g, j, none⟩ := fun g j h1 h2 => World.cell?_of_block (HG3.out.block g h1 (fun e => h2 (Option.some.inj e)))
  have hNb : N ≠ b := fun e => (HW.out.has (g := b) (.inl rfl)).2.2 e.symm
  have hz3 : W.heap.size ≤ w3.heap.size := HG3.out.size
  have d0 := (kk N o hN hNb).trans c0
  have d1 := (kk N (o + 1) hN hNb).trans c1
  have t0 := (kk X 0 hXz hXb).trans q0
  have t1 := (kk X 1 hXz hXb).trans q1
  have t2 := (kk X 2 hXz hXb).trans q2
  have t3 := (kk X 3 hXz hXb).trans q3
  have t4 := (kk X 4 hXz hXb).trans q4
  have t5 := (kk X 5 hXz hXb).trans q5
  have t6 := (kk X 6 hXz hXb).trans q6
  have t7 := (kk X 7 hXz hXb).trans q7
  have t8 := (kk X 8 hXz hXb).trans q8
  have HFz3 : Hid (∀ j, w3.frozen? ⟨N, j, none⟩ = false) := fun j => (World.frozen?_of_block (HG3.out.block N hN (fun e => hNb (Option.some.inj e)))).trans (HF.out j)
  have HLs : Hid (w3.ownsRow B 71 2 (.slice va L vc) L (bkCs l)) := by
    have := HW.out.ls
    rw [HV.out, HLe.out] at this
    exact ownsRow_keep this (fun g hg => HG3.out.block g (row_lt this g hg).2 (fun e => by have := HW.out.apart; rw [HV.out] at this; exact this (by rw [← Option.some.inj e]; exact hg)))
  clear hrun kk q0 q1 q2 q3 q4 q5 q6 q7 q8 c0 c1 g0 g1
  refine held_tail 6 4 (fun w' => w'.cell? ⟨N, o + 1, none⟩ = some (.slice va L vc) ∧ w'.cell? ⟨X, 0, none⟩ = some (.int .i64 a0) ∧ w'.cell? ⟨X, 1, none⟩ = some (.int .i64 a1) ∧ w'.cell? ⟨X, 2, none⟩ = some (.int .i64 a2) ∧ w'.cell? ⟨X, 3, none⟩ = some (.int .i64 a3) ∧ w'.cell? ⟨X, 4, none⟩ = some (.int .i64 a4) ∧ w'.cell? ⟨X, 5, none⟩ = some (.int .i64 a5) ∧ w'.cell? ⟨X, 6, none⟩ = some (.int .i64 a6) ∧ w'.cell? ⟨X, 7, none⟩ = some (.int .i64 a7) ∧ w'.cell? ⟨X, 8, none⟩ = some (.int .i64 a8)) (by kernel_rfl) (by kernel_rfl) (fun d _ _ _ _ h => by cases d <;> exact h) ⟨d1, t0, t1, t2, t3, t4, t5, t6, t7, t8⟩ ?_
  simp only [List.take_succ_cons, List.take_zero, List.drop_succ_cons, List.drop_zero]
  iterate 6
    refine wpTake_step ?_ rfl ?_ ?_
    rotate_left
    · rintro w' ⟨e1, f0, f1, f2, f3, f4, f5, f6, f7, f8⟩
      go_simp
      rfl
    go_simp
  refine wpTake_nil ?_
  refine wpTail_step rfl (fun K hK => ?_)
  go_simp
  refine (unhide HTx _).mono ?_
  rintro e w5 ⟨rfl, hb5⟩
  have HB5 : Hid (Below w3.heap.size w3 w5) := ((Below.refl w3.heap.size w3).drew).trans hb5
  clear hb5
  have hz5 := HB5.out.size
  have hX3 : X < w3.heap.size := Nat.lt_of_lt_of_le hXz hz3
  have hN3 : N < w3.heap.size := Nat.lt_of_lt_of_le hN hz3
  have k5 : ∀ g j, g < w3.heap.size → w5.cell? ⟨g, j, none⟩ = w3.cell? ⟨g, j, none⟩ := fun g j h1 => World.cell?_of_block (HB5.out.block g h1)
  have s1 := (k5 N (o + 1) hN3).trans d1
  have s0 := (k5 N o hN3).trans d0
  have u0 := (k5 X 0 hX3).trans t0
  have u1 := (k5 X 1 hX3).trans t1
  have u2 := (k5 X 2 hX3).trans t2
  have u3 := (k5 X 3 hX3).trans t3
  have u4 := (k5 X 4 hX3).trans t4
  have u5 := (k5 X 5 hX3).trans t5
  have u6 := (k5 X 6 hX3).trans t6
  have u7 := (k5 X 7 hX3).trans t7
  have u8 := (k5 X 8 hX3).trans t8
  clear k5 d0 d1 t0 t1 t2 t3 t4 t5 t6 t7 t8
  go_simp
  refine hK _ _ ⟨s1, u0, u1, u2, u3, u4, u5, u6, u7, u8⟩ ?_
  clear hK K
  refine wpTail_step rfl (fun K hK => ?_)
  go_simp
  refine hK _ _ ⟨s1, u0, u1, u2, u3, u4, u5, u6, u7, u8⟩ ?_
  clear hK K
  refine wpTail_step rfl (fun K hK => ?_)
  go_simp
  have hX5 : X < w5.heap.size := Nat.lt_of_lt_of_le hX3 hz5
  have hN5 : N < w5.heap.size := Nat.lt_of_lt_of_le hN3 hz5
  have k6 : ∀ ob g j, g < w5.heap.size → (w5.alloc ob).cell? ⟨g, j, none⟩ = w5.cell? ⟨g, j, none⟩ := fun ob g j h1 => World.cell?_of_block (Below.heap_alloc w5 ob g h1)
  refine hK _ _ ⟨(k6 _ N (o + 1) hN5).trans s1, (k6 _ X 0 hX5).trans u0, (k6 _ X 1 hX5).trans u1, (k6 _ X 2 hX5).trans u2, (k6 _ X 3 hX5).trans u3, (k6 _ X 4 hX5).trans u4, (k6 _ X 5 hX5).trans u5, (k6 _ X 6 hX5).trans u6, (k6 _ X 7 hX5).trans u7, (k6 _ X 8 hX5).trans u8⟩ ?_
  clear hK K
  refine wpTail_step rfl (fun K hK => ?_)
  have HO5 : Hid ((w5.alloc (.cells #[.string (bya (wdsT ws)), .string ⟨#[]⟩] 71)).ownsRow B 71 2 (.slice va L vc) L (bkCs l)) := (own_grow HLs.out HB5.out).alloc _
  refine wp_append_lies _ _ _ 37 rfl B 71 inf _ 2 32 Tryz.underlying37 HInf.out HZ.out HSz.out HBy.out rfl (by decide) (.slice va L vc) L (bkCs l) rfl HO5.out ⟨w5.heap.size, 0, none⟩ 1 1 [.string (bya (wdsT ws)), .string ⟨#[]⟩] rfl rfl (World.news_of_block (_root_.Go.heap_alloc_new w5 _)) (fun u hu => by simp at hu; rcases hu with rfl | rfl <;> rfl) (by decide) (by have := HL.out; unfold maxLen; omega) (by have := HL.out; omega) (by rw [size_alloc1]; have := HBN.out; omega) (w5.heap.size + 1) (by rw [size_alloc1]) ?_
  intro g cap w4 hown4 hgr4 hat4 hlt4
  have hNo : some N ≠ (Value.slice va L vc).ownBlock := fun q => HW.out.nv (by rw [HV.out]; exact q.symm)
  have k1 : ∀ j, w4.cell? ⟨N, j, none⟩ = w5.cell? ⟨N, j, none⟩ := fun j => by
    rw [hgr4.cell_far ⟨N, j, none⟩ (by rw [size_alloc1]; exact Nat.lt_succ_of_lt hN5) hNo]
    exact World.cell?_of_block (Below.heap_alloc w5 _ N hN5)
  have k2 : ∀ j, w4.frozen? ⟨N, j, none⟩ = false := fun j => by
    rw [hgr4.frozen_far ⟨N, j, none⟩ (by rw [size_alloc1]; exact Nat.lt_succ_of_lt hN5) hNo]
    exact (World.frozen?_of_block (w := w5) (Below.heap_alloc w5 _ N hN5)).trans ((World.frozen?_of_block (HB5.out.block N hN3)).trans (HFz3.out j))
  have k3 : ∀ j, w4.cell? ⟨X, j, none⟩ = w5.cell? ⟨X, j, none⟩ := fun j => by
    rw [hgr4.cell_far ⟨X, j, none⟩ (by rw [size_alloc1]; exact Nat.lt_succ_of_lt hX5) hXo]
    exact World.cell?_of_block (Below.heap_alloc w5 _ X hX5)
  have HE4 : Hid (∀ W', W' = w4.setCell ⟨N, o + 1, none⟩ (.slice (some ⟨g, 0, none⟩) (L + 1) cap) → BoAt B N o (l ++ [(ws, [])]) (.map (some b)) (.slice (some ⟨g, 0, none⟩) (L + 1) cap) W' ∧ BFr B N o (.map (some b)) v W W') := fun W' hW' => by
    have key := lay_end (w := W) (w0 := W.drew.drew) (w3 := w3) (w5 := w5.alloc (.cells #[.string (bya (wdsT ws)), .string ⟨#[]⟩] 71)) (w4 := w4) (W := W') HW.out HBN.out HWs.out HNo.out (((Below.refl _ _).drew).drew) HG3.out (by rw [HLe.out]; exact H3.out) (by have := HTk.out; rw [HLw.out] at this; exact this) (HB5.out.alloc hz5 _) g cap (by rw [HLe.out]; exact hown4) (by rw [HV.out]; exact hgr4) (by rw [HV.out]; rcases hat4 with q | q; exact .inl q; exact .inr (by omega)) (by rw [HLe.out]; exact hW')
    rw [HLe.out] at key
    exact key
  have HAt : Hid (v.ownBlock = some g ∨ W.heap.size ≤ g) := by unfold Hid; rw [HV.out]; rcases hat4 with q | q; exact .inl q; exact .inr (by omega)
  refine hK _ _ ⟨(k1 (o + 1)).trans s1, (k3 0).trans u0, (k3 1).trans u1, (k3 2).trans u2, (k3 3).trans u3, (k3 4).trans u4, (k3 5).trans u5, (k3 6).trans u6, (k3 7).trans u7, (k3 8).trans u8⟩ ?_
  have y1 := (k1 (o + 1)).trans s1
  have y0 := (k1 o).trans s0
  have yf := k2 (o + 1)
  have h4L : w4.frozen? ⟨g, L * 2 + 1, none⟩ = false := hown4.frozenAt _
  have h4c : ∃ u, w4.cell? ⟨g, L * 2 + 1, none⟩ = some u := ⟨_, by
    rw [hown4.cellAt (L * 2 + 1) (by omega), List.getElem?_append_right (by rw [bkCs_len, HLe.out]; omega), bkCs_len, HLe.out, show L * 2 + 1 - L * 2 = 1 by omega]
    rfl⟩
  obtain ⟨u, hu⟩ := h4c
  have hgN : g ≠ N := by
    rcases hat4 with q | q
    · exact fun e => hNo (by rw [← e]; exact q.symm)
    · omega
  clear hown4 hgr4 hat4 k1 k3 k2 s0 s1 u0 u1 u2 u3 u4 u5 u6 u7 u8 hK K k6
  unfold wpTailS
  have hL0 : ¬ (L : Int) < 0 := by omega
  have hL1 : (L : Int) < ((L + 1 : Nat) : Int) := by omega
  go_wp2_with fail
  go_end0
  obtain ⟨e1, e2⟩ := HE4.out _ rfl
  have e3 := e1.setPlan (n := l.length) (k := (ws, [])) (g := g) (c := cap) (by simp) (by rw [List.length_append, HLe.out]; rfl) (lst p)
  rw [bya_lst, HLe.out] at e3
  have own : ∀ g', bkHas (.map (some b)) (.slice (some ⟨g, 0, none⟩) (L + 1) cap) g' → bkHas (.map (some b)) v g' ∨ W.heap.size ≤ g' := fun g' q => by
    rcases q with q | q
    · exact .inl (.inl q)
    · cases q
      rcases HAt.out with a | a
      · exact .inl (.inr a)
      · exact .inr a
  have e4 : (l ++ [(ws, [])]).set L (ws, lst p) = l ++ [(ws, lst p)] := by rw [← HLe.out]; simp
  rw [e4] at e3
  refine ⟨rfl, _, _, e3.1, HFin.out _ (e2.trans own e3.2), fun g' q => ?_⟩
  rcases own g' q with a | a
  · exact HOwn.out g' a
  · exact .inr (Nat.le_trans HWz.out a)
end Go.Proofs.YtmmflekajbeamabGreatDoor

namespace Go.Proofs.YtmmflekajbeamabGreatDoor
open Go.RowKit

theorem arT_open {a : ArN} (h : a.gen = 0) (K : Nat) (q : List UInt8) : arT a K q = rOpen a K q := by unfold arT rOpen; rw [if_pos h]
theorem arT_entry {a : ArN} (h : a.gen ≠ 0) {K : Nat} (hK : K = 2) (q : List UInt8) : arT a K q = rEntry a q := by subst hK; unfold arT rEntry; rw [if_neg h, if_pos rfl]
theorem arT_whole {a : ArN} (h : a.gen ≠ 0) {K : Nat} (hK : K = 3) (q : List UInt8) : arT a K q = rWhole a q := by subst hK; unfold arT rWhole; rw [if_neg h, if_neg (by decide), if_pos rfl]
theorem arT_other {a : ArN} (h : a.gen ≠ 0) {K : Nat} (h2 : K ≠ 2) (h3 : K ≠ 3) (q : List UInt8) : arT a K q = none := by unfold arT; rw [if_neg h, if_neg h2, if_neg h3]
theorem TkPost.up {A : Nat} {a : ArN} {v : Value} {r : Option ArN} {w W1 : World} {e : Ending} {w' : World} (hA : A < w.heap.size) (hb : Below w.heap.size w W1) (h : TkPost A a v r W1 e w') : TkPost A a v r w e w' := by
  obtain ⟨⟨h1, h2⟩, h3⟩ := h
  have hz := hb.size
  refine ⟨⟨(hb.mono (Nat.le_of_lt hA)).trans h1, fun g hg hn ho => (h2 g (by omega) hn ho).trans (hb.block g hg)⟩, ?_⟩
  rcases h3 with ⟨a', v', x1, x2, x3, x4⟩ | x
  · refine .inl ⟨a', v', x1, x2, x3, fun g hg => ?_⟩
    rcases x4 g hg with h | h
    · exact .inl h
    · exact .inr (by omega)
  · exact .inr x
theorem TkPost.form {A : Nat} {a : ArN} {v : Value} {r : Option ArN} {w : World} {e : Ending} {w' : World} (h : TkPost A a v r w e w') : ∃ b, e = .returned (.bool b) := by
  obtain ⟨_, ⟨_, _, _, rfl, _⟩ | ⟨_, rfl, _⟩⟩ := h
  · exact ⟨_, rfl⟩
  · exact ⟨_, rfl⟩

set_option maxRecDepth 100000 in
set_option maxHeartbeats 4000000 in
theorem frTake_any (A : Nat) (a : ArN) (v : Value) (K : Nat) (q : List UInt8) (n : Int) (w : World) (h : ArAt A a v w) (ht : Tab w) (hq2 : q.length ≤ 200) (hal : a.list.length ≤ 2000000) (hgg : a.good = 0 ↔ a.gen = 0) :
    Calls Tryz.prog 183 #[.pointer (some ⟨A, 0, none⟩), .agg #[.int .i64 (K : Int), .string (bya q), .int .i64 n]] w (TkPost A a v (arT a K q) w) := by
  have hA := h.lt
  have hne : ¬ A = w.heap.size := by omega
  have g2 : w.cell? ⟨A, 2, none⟩ = some (.int .i64 (a.good : Int)) := h.cell 2
  obtain ⟨W1, hW1⟩ : ∃ W1, W1 = w.alloc (.cells #[.int .i64 (K : Int), .string (bya q), .int .i64 n] 240) := ⟨_, rfl⟩
  have b1 : Below w.heap.size w W1 := by rw [hW1]; exact (Below.refl _ _).alloc (Nat.le_refl _) _
  have a1 := h.above b1
  have HUp : Hid (∀ r e w', TkPost A a v r W1 e w' → TkPost A a v r w e w') := fun r e w' hp => hp.up hA b1
  have HW := hide hW1
  by_cases h0 : a.good = 0
  · have HC := hide (takeOpen_any A a v K q n W1 a1 (hgg.1 h0))
    rw [← arT_open (hgg.1 h0)] at HC
    rw [h0] at g2
    clear b1 a1 hW1
    generalize arT a K q = R at *
    generalize bya q = D at *
    go_enter Tryz.func183, Tryz.ntmps183
    go_wp2_with fail
    rw [← HW.out]
    refine (unhide HC).mono ?_
    intro e w' hp
    obtain ⟨b, rfl⟩ := hp.form
    have HP := hide (HUp.out _ _ _ hp)
    clear hp
    go_wp2_with fail
    go_ret
    exact HP.out
  have hg0 : a.gen ≠ 0 := fun e => h0 (hgg.2 e)
  have h0' : ((a.good : Int) == 0) = false := by rw [beq_eq_false_iff_ne]; omega
  by_cases h2 : K = 2
  · have HC := hide (takeEntry_any A a v K q n W1 a1 (ht.below ht.pos b1) hq2 hal)
    rw [← arT_entry hg0 h2] at HC
    have h2t : ((K : Int) == 2) = true := by rw [beq_iff_eq]; omega
    clear b1 a1 hW1 h2
    generalize arT a K q = R at *
    generalize bya q = D at *
    go_enter Tryz.func183, Tryz.ntmps183
    go_wp2_with fail
    rw [← HW.out]
    refine (unhide HC).mono ?_
    intro e w' hp
    obtain ⟨b, rfl⟩ := hp.form
    have HP := hide (HUp.out _ _ _ hp)
    clear hp
    go_wp2_with fail
    go_ret
    exact HP.out
  have h2' : ((K : Int) == 2) = false := by rw [beq_eq_false_iff_ne]; omega
  by_cases h3 : K = 3
  · have HC := hide (takeWhole_any A a v K q n W1 a1)
    rw [← arT_whole hg0 h3] at HC
    have h3t : ((K : Int) == 3) = true := by rw [beq_iff_eq]; omega
    clear b1 a1 hW1 h3 h2
    generalize arT a K q = R at *
    generalize bya q = D at *
    go_enter Tryz.func183, Tryz.ntmps183
    go_wp2_with fail
    rw [← HW.out]
    refine (unhide HC).mono ?_
    intro e w' hp
    obtain ⟨b, rfl⟩ := hp.form
    have HP := hide (HUp.out _ _ _ hp)
    clear hp
    go_wp2_with fail
    go_ret
    exact HP.out
  have h3' : ((K : Int) == 3) = false := by rw [beq_eq_false_iff_ne]; omega
  have HP : Hid (TkPost A a v (arT a K q) w (.returned (.bool false)) W1) := ⟨TkFr.of_above hA b1, .inr ⟨arT_other hg0 h2 h3 q, rfl, a1⟩⟩
  clear b1 a1 hW1 h2 h3
  generalize arT a K q = R at *
  generalize bya q = D at *
  go_enter Tryz.func183, Tryz.ntmps183
  go_wp2_with fail
  go_ret
  rw [← HW.out]
  exact HP.out
end Go.Proofs.YtmmflekajbeamabGreatDoor
