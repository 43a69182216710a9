/-
  The engine: a turn's outcome (turn), frames laid (lay), what is known and waits (together).
  The engine: what is known and waits (together, learn).
  The engine: an area written anew (writeAnew).
-/
import Derived.Test.YtmmflekajbeamabGreatDoorW20
namespace Go.Proofs.YtmmflekajbeamabGreatDoor
open Go.RowKit Go.Maps Go.WideMaps

/-- The calls of a device that an engine makes. -/
structure Dev (α : Type) where
  add : α → Int → List UInt8 → Int × α
  clear : α → Int → Int × α
  sync : α → Int → Int × α
  read : α → Int → List UInt8 × Int × α
def dOps : Dev DvN := ⟨dAdd, dClear, dSync, dRead⟩
def knT (l : List KwN) : List (List UInt8 × List UInt8) := l.map fun k => (wdsT k.1, k.2)
theorem knT_len (l : List KwN) : (knT l).length = l.length := List.length_map _
def failE (g : EgN) : EgN := { g with fl := true }
def layE {α : Type} (o : Dev α) (g : EgN) (d : α) (i : Int) (s : List UInt8) : Int × EgN × α :=
  if (o.add d i s).1 = 0 then (if (o.sync (o.add d i s).2 i).1 = 0 then (0, g, (o.sync (o.add d i s).2 i).2) else (15, failE g, (o.sync (o.add d i s).2 i).2)) else (15, failE g, (o.add d i s).2)
set_option maxRecDepth 100000 in
theorem eturn_ok (E : Nat) (w : World) : Calls Tryz.prog 93 #[.pointer (some ⟨E, 0, none⟩), .int .i64 0] w fun e' w' => e' = .returned (.int .i64 0) ∧ w' = w := by
  go_enter Tryz.func93, Tryz.ntmps93
  go_wp2_with fail
  go_ret
  exact ⟨rfl, rfl⟩
theorem scV_fail (D : Nat) (g : EgN) : ∀ k, isSc k → k ≠ 2 → scV D (failE g) k = scV D g k := fun k _ hk => by
  unfold scV failE
  simp only [if_neg hk]
set_option maxRecDepth 100000 in
theorem eturn_no (E D : Nat) (g : EgN) (d : DvN) (m v vs : Nat → Value) (a : Int) (w : World) (h : EdAt E D g d m v vs w) (ha : a ≠ 0) : Calls Tryz.prog 93 #[.pointer (some ⟨E, 0, none⟩), .int .i64 a] w (EPost E D m v vs w 15 (failE g) d) := by
  have c2 := h.eg.sc 2 (.inl (by decide))
  have f2 := h.eg.fz 2
  have hE : scV D g 2 = .bool g.fl := rfl
  rw [hE] at c2
  have HP : Hid (∀ W, W = w.setCell ⟨E, 2, none⟩ (.bool true) → EPost E D m v vs w 15 (failE g) d (.returned (.int .i64 15)) W) := fun W hW => by
    have := h.set 2 (.inl (by decide)) (failE g) rfl rfl (scV_fail D g) (.bool true) rfl
    rw [hW]
    exact ⟨rfl, m, v, vs, this.1, this.2⟩
  have ha' : (a == 0) = false := by simpa using ha
  clear h
  go_enter Tryz.func93, Tryz.ntmps93
  go_wp2_with fail
  go_ret
  exact HP.out _ rfl
theorem layE_d (g : EgN) (d : DvN) (i : Int) (s : List UInt8) : layE dOps g d i s = if (dAdd d i s).1 = 0 then (if (dSync (dAdd d i s).2 i).1 = 0 then (0, g, (dSync (dAdd d i s).2 i).2) else (15, failE g, (dSync (dAdd d i s).2 i).2)) else (15, failE g, (dAdd d i s).2) := rfl
set_option maxRecDepth 100000 in
set_option maxHeartbeats 2000000 in
theorem elay_any (E D : Nat) (g : EgN) (d : DvN) (m v vs : Nat → Value) (i : Nat) (s : ByteArray) (w : World) (h : EdAt E D g d m v vs w) (hs : s.size ≤ 140737488351232) :
    Calls Tryz.prog 58 #[.pointer (some ⟨E, 0, none⟩), .int .i64 (i : Int), .string s] w (EPost E D m v vs w (layE dOps g d (i : Int) (lst s)).1 (layE dOps g d (i : Int) (lst s)).2.1 (layE dOps g d (i : Int) (lst s)).2.2) := by
  have c0 := h.eg.sc 0 (.inl (by decide))
  have hE0 : scV D g 0 = .pointer (some ⟨D, 0, none⟩) := rfl
  rw [hE0] at c0
  have HAdd := hide (dAdd_any D d vs (i : Int) s w h.dv hs)
  have HH := hide h
  have HT := hide (fun w' => eturn_ok E w')
  rw [layE_d]
  generalize dAdd d i (lst s) = r1 at *
  obtain ⟨a1, d1⟩ := r1
  simp only at HAdd ⊢
  clear h hs
  by_cases ha : a1 = 0
  · subst ha
    rw [if_pos rfl]
    have HSy := hide (fun vs1 w1 (k1 : DvAt D d1 vs1 w1) => dSync_any D d1 vs1 (i : Int) w1 k1)
    generalize dSync d1 (i : Int) = r2 at *
    obtain ⟨a2, d2⟩ := r2
    simp only at HSy ⊢
    by_cases ha2 : a2 = 0
    · subst ha2
      rw [if_pos rfl]
      simp only
      go_enter Tryz.func58, Tryz.ntmps58
      go_wp2_with fail
      refine (unhide HAdd).mono ?_
      rintro e w1 ⟨rfl, vs1, hd1, hf1⟩
      obtain ⟨k1, k2⟩ := HH.out.dev hd1 hf1
      have HK1 := hide k1; have HK2 := hide k2
      have c1 := k1.eg.sc 0 (.inl (by decide))
      rw [hE0] at c1
      clear hd1 hf1 k1 k2 HAdd
      go_wp2_with fail
      refine (unhide HT _).mono ?_
      rintro e w' ⟨rfl, hw'⟩
      obtain rfl := hw'.symm
      go_wp2_with fail
      refine (unhide HSy _ _ HK1.out.dv).mono ?_
      rintro e w2 ⟨rfl, vs2, hd2, hf2⟩
      obtain ⟨k3, k4⟩ := HK1.out.dev hd2 hf2
      have HK3 := hide k3; have HK4 := hide (HK2.out.trans k4)
      clear hd2 hf2 k3 k4 HSy
      go_wp2_with fail
      refine (unhide HT _).mono ?_
      rintro e w' ⟨rfl, hw'⟩
      obtain rfl := hw'.symm
      go_wp2_with fail
      go_ret
      exact ⟨rfl, m, v, vs2, HK3.out, HK4.out⟩
    · rw [if_neg ha2]
      simp only
      have HN2 := hide (fun vs2 w2 (k : EdAt E D g d2 m v vs2 w2) => eturn_no E D g d2 m v vs2 a2 w2 k ha2)
      clear ha2
      go_enter Tryz.func58, Tryz.ntmps58
      go_wp2_with fail
      refine (unhide HAdd).mono ?_
      rintro e w1 ⟨rfl, vs1, hd1, hf1⟩
      obtain ⟨k1, k2⟩ := HH.out.dev hd1 hf1
      have HK1 := hide k1; have HK2 := hide k2
      have c1 := k1.eg.sc 0 (.inl (by decide))
      rw [hE0] at c1
      clear hd1 hf1 k1 k2 HAdd
      go_wp2_with fail
      refine (unhide HT _).mono ?_
      rintro e w' ⟨rfl, hw'⟩
      obtain rfl := hw'.symm
      go_wp2_with fail
      refine (unhide HSy _ _ HK1.out.dv).mono ?_
      rintro e w2 ⟨rfl, vs2, hd2, hf2⟩
      obtain ⟨k3, k4⟩ := HK1.out.dev hd2 hf2
      have HK3 := hide k3; have HK4 := hide (HK2.out.trans k4)
      clear hd2 hf2 k3 k4 HSy
      go_wp2_with fail
      refine (unhide HN2 _ _ HK3.out).mono ?_
      rintro e w3 ⟨rfl, m3, v3, vs3, k5, k6⟩
      have HK5 := hide k5; have HK6 := hide (HK4.out.trans k6)
      clear k5 k6 HN2
      go_wp2_with fail
      go_ret
      exact ⟨rfl, m3, v3, vs3, HK5.out, HK6.out⟩
  · rw [if_neg ha]
    simp only
    have HN2 := hide (fun vs2 w2 (k : EdAt E D g d1 m v vs2 w2) => eturn_no E D g d1 m v vs2 a1 w2 k ha)
    clear ha
    go_enter Tryz.func58, Tryz.ntmps58
    go_wp2_with fail
    refine (unhide HAdd).mono ?_
    rintro e w1 ⟨rfl, vs1, hd1, hf1⟩
    obtain ⟨k1, k2⟩ := HH.out.dev hd1 hf1
    have HK1 := hide k1; have HK2 := hide k2
    clear hd1 hf1 k1 k2 HAdd
    go_wp2_with fail
    refine (unhide HN2 _ _ HK1.out).mono ?_
    rintro e w3 ⟨rfl, m3, v3, vs3, k5, k6⟩
    have HK5 := hide k5; have HK6 := hide (HK2.out.trans k6)
    clear k5 k6 HN2
    go_wp2_with fail
    go_ret
    exact ⟨rfl, m3, v3, vs3, HK5.out, HK6.out⟩
end Go.Proofs.YtmmflekajbeamabGreatDoor

namespace Go.Proofs.YtmmflekajbeamabGreatDoor
open Go.RowKit Go.Maps Go.WideMaps

def togB (g : EgN) : List KwN := bookL (knT (g.b 0) ++ knT (g.b 1))
/-- What an engine's numbers keep to. -/
structure EgOK (g : EgN) : Prop where
  ar : g.ar ≤ 1
  gn : g.gn ≤ 4294967295
  few : ∀ i, i < 3 → (g.b i).length ≤ 200000000000
  sh : ∀ i, i < 3 → ∀ k ∈ g.b i, k.2.length ≤ 1000000
theorem wds_sh {ws : List Nat} (h : wOK ws) : (wdsT ws).length ≤ 32 := by rw [wdsT_len]; have := h.1; omega
theorem knT_sh {l : List KwN} (h : ∀ k ∈ l, wOK k.1) : ∀ x ∈ knT l, x.1.length ≤ 1000000 := fun x hx => by
  obtain ⟨k, hk, rfl⟩ := List.mem_map.1 hx
  have := wds_sh (h k hk)
  show (wdsT k.1).length ≤ _
  omega
set_option maxRecDepth 100000 in
set_option maxHeartbeats 4000000 in
theorem together_any (E D : Nat) (g : EgN) (m v : Nat → Value) (w : World) (h : EgAt E D g m v w) (ht : Tab w) (hok : EgOK g) :
    Calls Tryz.prog 92 #[.pointer (some ⟨E, 0, none⟩)] w (BkPost (togB g) w) := by
  have b0 := h.bk 0 (by decide)
  have b1 := h.bk 1 (by decide)
  have n0 := hok.few 0 (by decide)
  have n1 := hok.few 1 (by decide)
  have hE := h.lt
  obtain ⟨W0, hW0⟩ : ∃ W0, W0 = w.alloc (.cells #[.map none, .slice none 0 0] 104) := ⟨_, rfl⟩
  have hb0 : Below w.heap.size w W0 := by rw [hW0]; exact (Below.refl _ _).alloc (Nat.le_refl _) _
  have r0 : W0.heap[w.heap.size]? = some (.cells #[.map none, .slice none 0 0] 104 (0, 0)) := by rw [hW0, _root_.Go.heap_alloc_new]
  have hz0 : W0.heap.size = w.heap.size + 1 := by rw [hW0, size_alloc1]
  have d0 : W0.cell? ⟨E, 150, none⟩ = some (v 0) := (World.cell?_of_block (hb0.block E hE)).trans b0.c1
  have d1 : W0.cell? ⟨E, 152, none⟩ = some (v 1) := (World.cell?_of_block (hb0.block E hE)).trans b1.c1
  have o0 : W0.ownsRow E 71 2 (v 0) (knT (g.b 0)).length (knCs (knT (g.b 0))) := by rw [knT_len]; exact own_grow b0.ls hb0
  have o1 : W0.ownsRow E 71 2 (v 1) (knT (g.b 1)).length (knCs (knT (g.b 1))) := by rw [knT_len]; exact own_grow b1.ls hb0
  have HT := hide (fun w' (hb : Below w.heap.size w w') => ht.below ht.pos hb)
  have HCc : Hid (∀ W G, Below W0.heap.size W0 W → W.cell? ⟨G, 0, none⟩ = some (v 0) → W.cell? ⟨G, 1, none⟩ = some (v 1) → Calls Tryz.prog 146 #[.slice (some ⟨G, 0, none⟩) 2 2] W (CcPost (knT (g.b 0) ++ knT (g.b 1)) W)) := fun W G hb c0 c1 => concat_any E E G (v 0) (v 1) _ _ W c0 c1 (own_grow o0 hb) (own_grow o1 hb) (by rw [knT_len, knT_len]; omega)
  have HBo : Hid (∀ W B u, Below w.heap.size w W → W.ownsRow B 71 2 u (knT (g.b 0) ++ knT (g.b 1)).length (knCs (knT (g.b 0) ++ knT (g.b 1))) → Calls Tryz.prog 130 #[u] W (BkPost (togB g) W)) := fun W B u hb ho => bookOf_any B u _ W (HT.out W hb) ho (fun x hx => by
    rcases List.mem_append.1 hx with q | q
    · exact knT_sh b0.ok x q
    · exact knT_sh b1.ok x q) (by rw [List.length_append, knT_len, knT_len]; omega)
  obtain ⟨va, vc, hv0⟩ := owns_len o0
  obtain ⟨ua, uc, hv1⟩ := owns_len o1
  have HB0 := hide hb0; have HR0 := hide r0; have HW0 := hide hW0; have HZ0 := hide hz0
  have hE0 : E < W0.heap.size := by omega
  rw [hv0] at d0 HCc
  rw [hv1] at d1 HCc
  clear h ht hok b0 b1 n0 n1 o0 o1 hb0 r0 hW0 hz0 hv0 hv1
  generalize (knT (g.b 0)).length = L0 at *
  generalize (knT (g.b 1)).length = L1 at *
  go_enter Tryz.func92, Tryz.ntmps92
  go_wp2_with fail
  rw [← HW0.out]
  refine held_tail 10 3 (fun w' => w'.cell? ⟨E, 150, none⟩ = some (.slice va L0 vc) ∧ w'.cell? ⟨E, 152, none⟩ = some (.slice ua L1 uc)) (by kernel_rfl) (by kernel_rfl) (fun d _ _ _ _ h => by cases d <;> exact h) ⟨d0, d1⟩ ?_
  simp only [List.take_succ_cons, List.take_zero, List.drop_succ_cons, List.drop_zero]
  iterate 10
    refine wpTake_step ?_ rfl ?_ ?_
    rotate_left
    · rintro w' ⟨e1, e2⟩
      go_simp
      rfl
    go_simp
  refine wpTake_nil ?_
  refine wpTail_step rfl (fun K hK => ?_)
  go_simp
  have k6 : ∀ ob g j, g < W0.heap.size → (W0.drew.alloc ob).cell? ⟨g, j, none⟩ = W0.cell? ⟨g, j, none⟩ := fun ob g j h1 => World.cell?_of_block (Below.heap_alloc W0.drew ob g h1)
  refine hK _ _ ⟨(k6 _ E 150 hE0).trans d0, (k6 _ E 152 hE0).trans d1⟩ ?_
  clear hK K k6
  refine wpTail_step rfl (fun K hK => ?_)
  go_simp
  refine (unhide HCc _ _ (((Below.refl W0.heap.size W0).drew).alloc (Nat.le_refl _) _) (cell_row (_root_.Go.heap_alloc_new W0.drew _) 0) (cell_row (_root_.Go.heap_alloc_new W0.drew _) 1)).mono ?_
  rintro e w2 ⟨u, rfl, hou, hbu⟩
  have HB2 : Hid (Below W0.heap.size W0 w2) := (((Below.refl W0.heap.size W0).drew).alloc (Nat.le_refl _) _).trans (hbu.mono (by rw [size_alloc1]; exact Nat.le_succ _))
  have HO2 := hide hou
  clear hou hbu HCc
  have kk : ∀ w', Below W0.heap.size W0 w' → w'.cell? ⟨E, 150, none⟩ = some (.slice va L0 vc) ∧ w'.cell? ⟨E, 152, none⟩ = some (.slice ua L1 uc) := fun w' hb => ⟨(World.cell?_of_block (hb.block E hE0)).trans d0, (World.cell?_of_block (hb.block E hE0)).trans d1⟩
  go_simp
  refine hK _ _ (kk _ HB2.out) ?_
  clear hK K
  have hB2w : Below w.heap.size w w2 := HB0.out.trans (HB2.out.mono HB0.out.size)
  have HBk := hide (HBo.out w2 _ u hB2w HO2.out)
  clear HBo
  refine wpTail_step rfl (fun K hK => ?_)
  go_simp
  refine (unhide HBk).mono ?_
  rintro e w3 ⟨mv, nv, rfl, hbv, hb3⟩
  have HB3 : Hid (Below W0.heap.size W0 w3) := HB2.out.trans (hb3.mono HB2.out.size)
  have hB3w : Below w.heap.size w w3 := hB2w.trans (hb3.mono hB2w.size)
  go_simp
  refine hK _ _ (kk _ HB3.out) ?_
  clear hK K kk
  unfold wpTailS
  have r3 : w3.heap[w.heap.size]? = some (.cells #[.map none, .slice none 0 0] 104 (0, 0)) := (HB3.out.block _ (by rw [HZ0.out]; exact Nat.lt_succ_self _)).trans HR0.out
  have hne : ∀ x, bkHas mv nv x → x ≠ w.heap.size := fun x q e => by have := (hbv.has q).1; have := HB2.out.size; have := HZ0.out; omega
  have HEnd : Hid (∀ Wf, Wf = (w3.setCell ⟨w.heap.size, 0, none⟩ mv).setCell ⟨w.heap.size, 1, none⟩ nv → Wf.heap[w.heap.size]? = some (.cells #[mv, nv] 104 (0, 0)) ∧ BkPost (togB g) w (.returned (.agg #[mv, nv])) Wf) := fun Wf e => by
    refine ⟨by rw [e]; simp [World.setCell, Array.getElem?_modify, r3], mv, nv, rfl, ?_, ?_⟩
    · refine (hbv.base (B' := w.heap.size) hB2w.size).kept (fun x q => ?_)
      rw [e]
      exact (set_other (hne x q)).trans (set_other (hne x q))
    · rw [e]
      exact (hB3w.setCell (p := ⟨w.heap.size, 0, none⟩) (Nat.le_refl _) _).setCell (p := ⟨w.heap.size, 1, none⟩) (Nat.le_refl _) _
  have s0 : w3.cell? ⟨w.heap.size, 0, none⟩ = some (.map none) := by simp [World.cell?, r3]
  have s1 : w3.cell? ⟨w.heap.size, 1, none⟩ = some (.slice none 0 0) := by simp [World.cell?, r3]
  have g0 : w3.frozen? ⟨w.heap.size, 0, none⟩ = false := by simp [World.frozen?, r3]
  have g1 : w3.frozen? ⟨w.heap.size, 1, none⟩ = false := by simp [World.frozen?, r3]
  obtain ⟨ob, rfl⟩ := hbv.map
  obtain ⟨xa, xc, rfl⟩ := owns_len hbv.ls
  clear hbv hb3 hB3w hB2w r3 hne d0 d1
  go_wp2_with fail
  exact bodyPost_ret (v := .agg #[.map ob, .slice xa (togB g).length xc]) (results_cell_row Tryz.results92 _ _ w.heap.size 104 _ _ _ rfl (HEnd.out _ rfl).1 Tryz.underlying104 rfl sizeBk) rfl (HEnd.out _ rfl).2
def learnE (g : EgN) : EgN := { g with b := upd (upd g.b 0 (togB g)) 1 [] }
set_option maxRecDepth 100000 in
set_option maxHeartbeats 2000000 in
theorem learn_any (E D : Nat) (g : EgN) (m v : Nat → Value) (w : World) (h : EgAt E D g m v w) (ht : Tab w) (hok : EgOK g) :
    Calls Tryz.prog 59 #[.pointer (some ⟨E, 0, none⟩)] w fun e' w' => e' = .returned (.tuple #[]) ∧ ∃ m' v', EgAt E D (learnE g) m' v' w' ∧ Chg (eHas E m v) w w' ∧ ∀ x, eHas E m' v' x → eHas E m v x ∨ w.heap.size ≤ x := by
  have HTg := hide (together_any E D g m v w h ht hok)
  have HH := hide h
  clear h ht hok
  go_enter Tryz.func59, Tryz.ntmps59
  go_wp2_with fail
  refine (unhide HTg).mono ?_
  rintro e w1 ⟨mv, nv, rfl, hbv, hb⟩
  have h1 : EgAt E D g m v w1 := HH.out.kept (fun x q => hb.block x (HH.out.has q).2)
  have hEw := HH.out.lt
  have hn : ∀ x, bkHas mv nv x → ¬ eHas E m v x := fun x q p => by have := (hbv.has q).1; have := (HH.out.has p).2; omega
  have HP : Hid (∀ W, W = (((w1.setCell ⟨E, 149, none⟩ mv).setCell ⟨E, 150, none⟩ nv).setCell ⟨E, 151, none⟩ (.map none)).setCell ⟨E, 152, none⟩ (.slice none 0 0) → ∃ m' v', EgAt E D (learnE g) m' v' W ∧ Chg (eHas E m v) w W ∧ ∀ x, eHas E m' v' x → eHas E m v x ∨ w.heap.size ≤ x) := fun W hW => by
    obtain ⟨a1, a2⟩ := h1.putBook (i := 0) (by decide) (hbv.base (Nat.le_of_lt hEw)) hn _ rfl
    obtain ⟨a3, a4⟩ := a1.putBook (i := 1) (by decide) (BoV.none E _) (fun x q => by rcases q with q | q <;> cases q) W hW
    refine ⟨_, _, a3, (Chg.of_below hb).trans (fun x q => .inl q) ((a2.weak (G := eHas E m v) (fun x q => .inl (.inl q))).trans (fun x q => .inl (.inl q)) a4), fun x q => ?_⟩
    rcases q with q | ⟨i, hi, q⟩
    · exact .inl (.inl q)
    · by_cases i1 : i = 1
      · subst i1
        rw [upd_at, upd_at] at q
        rcases q with q | q <;> cases q
      · rw [upd_ne _ _ _ _ i1, upd_ne _ _ _ _ i1] at q
        by_cases i0 : i = 0
        · subst i0
          rw [upd_at, upd_at] at q
          exact .inr (hbv.has q).1
        · rw [upd_ne _ _ _ _ i0, upd_ne _ _ _ _ i0] at q
          exact .inl (.inr ⟨i, hi, q⟩)
  have c0 := (h1.bk 0 (by decide)).c0; have c1 := (h1.bk 0 (by decide)).c1
  have c2 := (h1.bk 1 (by decide)).c0; have c3 := (h1.bk 1 (by decide)).c1
  have f0 := h1.fz 149; have f1 := h1.fz 150; have f2 := h1.fz 151; have f3 := h1.fz 152
  obtain ⟨ob, rfl⟩ := hbv.map
  obtain ⟨xa, xc, rfl⟩ := owns_len hbv.ls
  have zb : ∀ w, (zeroValue 104).run Tryz.prog w = .ok (.agg #[.map none, .slice none 0 0]) w := fun w => by kernel_rfl
  clear hbv hb h1 hn HTg
  generalize m 0 = M0 at *
  generalize v 0 = V0 at *
  generalize m 1 = M1 at *
  generalize v 1 = V1 at *
  go_wp2_with fail
  go_end0
  exact ⟨rfl, HP.out _ rfl⟩
end Go.Proofs.YtmmflekajbeamabGreatDoor

namespace Go.Proofs.YtmmflekajbeamabGreatDoor
open Go.RowKit Go.Maps Go.WideMaps

def newE (g : EgN) (i n : Nat) : EgN := learnE { g with ar := i, gn := g.gn + 1, sz := n }
def frE (g : EgN) : List UInt8 := anewT (g.gn + 1) (knT (togB g))
def anewE {α : Type} (o : Dev α) (g : EgN) (d : α) (i : Nat) : Int × EgN × α :=
  if 4294967295 < g.gn + 1 then (16, g, d) else
  if 1500 < (frE g).length then (14, g, d) else
  if (o.clear d (i : Int)).1 = 0 then
    (if (layE o g (o.clear d (i : Int)).2 (i : Int) (frE g)).1 = 0 then (0, newE g i (frE g).length, (layE o g (o.clear d (i : Int)).2 (i : Int) (frE g)).2.2) else (15, failE g, (layE o g (o.clear d (i : Int)).2 (i : Int) (frE g)).2.2))
  else (15, failE g, (o.clear d (i : Int)).2)
theorem layE_cases {α : Type} (o : Dev α) (g : EgN) (d : α) (i : Int) (s : List UInt8) : ((layE o g d i s).1 = 0 ∧ (layE o g d i s).2.1 = g) ∨ ((layE o g d i s).1 = 15 ∧ (layE o g d i s).2.1 = failE g) := by
  unfold layE
  split
  · split
    · exact .inl ⟨rfl, rfl⟩
    · exact .inr ⟨rfl, rfl⟩
  · exact .inr ⟨rfl, rfl⟩
theorem foldB_plan {P : List UInt8 → Prop} : ∀ (l : List (List UInt8 × List UInt8)) (b : List KwN), (∀ k ∈ b, P k.2) → (∀ x ∈ l, P x.2) → ∀ k ∈ l.foldl bkAdd b, P k.2
  | [], b, hb, _ => hb
  | x :: l, b, hb, hl => by
    refine foldB_plan l (bkAdd b x) (fun k hk => ?_) (fun y hy => hl y (List.mem_cons_of_mem _ hy))
    unfold bkAdd layB at hk
    split at hk
    · split at hk
      · rcases List.mem_or_eq_of_mem_set hk with q | q
        · exact hb k q
        · rw [q]; exact hl x (List.mem_cons_self ..)
      · rcases List.mem_append.1 hk with q | q
        · exact hb k q
        · simp at q; rw [q]; exact hl x (List.mem_cons_self ..)
    · exact hb k hk
theorem foldB_word {P : List Nat → Prop} : ∀ (l : List (List UInt8 × List UInt8)) (b : List KwN), (∀ k ∈ b, P k.1) → (∀ x ∈ l, blkB (bya x.1) = true → P (rdW x.1)) → ∀ k ∈ l.foldl bkAdd b, P k.1
  | [], b, hb, _ => hb
  | x :: l, b, hb, hl => by
    refine foldB_word l (bkAdd b x) (fun k hk => ?_) (fun y hy => hl y (List.mem_cons_of_mem _ hy))
    unfold bkAdd layB at hk
    split at hk
    · rename_i hB
      split at hk
      · rcases List.mem_or_eq_of_mem_set hk with q | q
        · exact hb k q
        · rw [q]; exact hl x (List.mem_cons_self ..) hB
      · rcases List.mem_append.1 hk with q | q
        · exact hb k q
        · simp at q; rw [q]; exact hl x (List.mem_cons_self ..) hB
    · exact hb k hk
theorem rdW_ok {t : List UInt8} (h : blkB (bya t) = true) : wOK (rdW t) := by
  have hok := (blkB_iff _).1 h
  have hz : (bya t).size = t.length := bya_size t
  exact ⟨by unfold rdW; rw [blkL_len]; have := hok.2.1; omega, blkL_bd _ _⟩
theorem togB_len {g : EgN} (hok : EgOK g) : (togB g).length ≤ 400000000000 := by
  have h1 := bookL_len (knT (g.b 0) ++ knT (g.b 1))
  rw [List.length_append, knT_len, knT_len] at h1
  have := hok.few 0 (by decide); have := hok.few 1 (by decide)
  unfold togB
  omega
theorem togB_ok {g : EgN} (hok : EgOK g) : ∀ x ∈ knT (togB g), x.1.length ≤ 1000000 ∧ x.2.length ≤ 1000000 := fun x hx => by
  obtain ⟨k, hk, rfl⟩ := List.mem_map.1 hx
  refine ⟨?_, ?_⟩
  · have : wOK k.1 := foldB_word (P := wOK) _ [] (fun _ h => by cases h) (fun y _ h => rdW_ok h) k hk
    have := wds_sh this
    show (wdsT k.1).length ≤ _
    omega
  · refine foldB_plan (P := fun p => p.length ≤ 1000000) _ [] (fun _ h => by cases h) (fun y hy => ?_) k hk
    rcases List.mem_append.1 hy with q | q
    · obtain ⟨k', hk', rfl⟩ := List.mem_map.1 q
      exact hok.sh 0 (by decide) k' hk'
    · obtain ⟨k', hk', rfl⟩ := List.mem_map.1 q
      exact hok.sh 1 (by decide) k' hk'
theorem EdAt.drewN {E D : Nat} {g : EgN} {d : DvN} {m v vs : Nat → Value} {w : World} (h : EdAt E D g d m v vs w) (n : Nat) : EdAt E D g d m v vs (w.drewN n) := h.up (below_drewN (Below.refl _ _) n)
theorem scV_ar (D : Nat) (g : EgN) (i : Nat) : ∀ k, isSc k → k ≠ 146 → scV D { g with ar := i } k = scV D g k := fun k _ hk => by
  unfold scV
  simp only [if_neg hk]
theorem scV_gn (D : Nat) (g : EgN) (i : Nat) : ∀ k, isSc k → k ≠ 147 → scV D { g with gn := i } k = scV D g k := fun k _ hk => by
  unfold scV
  simp only [if_neg hk]
theorem scV_sz (D : Nat) (g : EgN) (i : Nat) : ∀ k, isSc k → k ≠ 148 → scV D { g with sz := i } k = scV D g k := fun k hs hk => by
  unfold isSc at hs
  unfold scV
  repeat' split
  all_goals first | rfl | omega
theorem fld_bk (ob : Option Nat) (ua : Option Addr) (n c : Nat) (w : World) : (Instr.field 104 (.agg #[.map ob, .slice ua n c]) 1).run Tryz.prog w = .ok (.slice ua n c) w := by kernel_rfl
theorem tab_ne {w : World} (h : Tab w) {g : Nat} {u : Value} (hc : w.cell? ⟨g, 0, none⟩ = some u) (hu : tabA[0]? ≠ some u) : 0 < g := by
  rcases Nat.eq_zero_or_pos g with e | e
  · obtain ⟨t, fr, q⟩ := h
    subst e
    exfalso
    apply hu
    rw [← hc]
    simp [World.cell?, q]
  · exact e
theorem EdAt.pos {E D : Nat} {g : EgN} {d : DvN} {m v vs : Nat → Value} {w : World} (h : EdAt E D g d m v vs w) (ht : Tab w) : 0 < E ∧ 0 < D := by
  have c0 : w.cell? ⟨E, 0, none⟩ = some (.pointer (some ⟨D, 0, none⟩)) := h.eg.sc 0 (.inl (by decide))
  refine ⟨tab_ne ht c0 (fun e => by cases e), ?_⟩
  obtain ⟨a, c, e⟩ := owns_len (h.dv.own 0 (by decide))
  refine tab_ne ht (h.dv.bytes 0 (by decide)) (fun q => ?_)
  rw [e] at q
  cases q
theorem EdAt.tab {E D : Nat} {g : EgN} {d : DvN} {m v vs m' v' vs' : Nat → Value} {w w' : World} (h : EdAt E D g d m v vs w) (ht : Tab w) (hf : EdFr E D m v vs m' v' vs' w w') : Tab w' := by
  obtain ⟨h1, h2⟩ := h.pos ht
  refine ht.below (B := 1) (by decide) (hf.chg.below ht.pos (fun x q => ?_))
  rcases q with q | q
  · have := (h.eg.has q).1; omega
  · have := (h.dv.has q).1; omega
/-- Area, generation and bytes set. -/
theorem EdAt.set3 {E D : Nat} {g : EgN} {d : DvN} {m v vs : Nat → Value} {w : World} (h : EdAt E D g d m v vs w) (a n s : Nat) (W : World) (hW : W = ((w.setCell ⟨E, 146, none⟩ (.int .i64 (a : Int))).setCell ⟨E, 147, none⟩ (.int .i64 (n : Int))).setCell ⟨E, 148, none⟩ (.int .i64 (s : Int))) :
    EdAt E D { g with ar := a, gn := n, sz := s } d m v vs W ∧ EdFr E D m v vs m v vs w W := by
  obtain ⟨a1, b1⟩ := h.set 146 (.inr (by decide)) { g with ar := a } rfl rfl (scV_ar D g a) (.int .i64 (a : Int)) rfl
  obtain ⟨a2, b2⟩ := a1.set 147 (.inr (by decide)) { g with ar := a, gn := n } rfl rfl (scV_gn D { g with ar := a } n) (.int .i64 (n : Int)) rfl
  obtain ⟨a3, b3⟩ := a2.set 148 (.inr (by decide)) { g with ar := a, gn := n, sz := s } rfl rfl (scV_sz D { g with ar := a, gn := n } s) (.int .i64 (s : Int)) rfl
  rw [hW]
  exact ⟨a3, (b1.trans b2).trans b3⟩
theorem EgOK.set3 {g : EgN} (h : EgOK g) {a n : Nat} (s : Nat) (ha : a ≤ 1) (hn : n ≤ 4294967295) : EgOK { g with ar := a, gn := n, sz := s } := ⟨ha, hn, h.few, h.sh⟩
set_option maxRecDepth 100000 in
set_option maxHeartbeats 4000000 in
theorem writeAnew_any (E D : Nat) (g : EgN) (d : DvN) (m v vs : Nat → Value) (w : World) (h : EdAt E D g d m v vs w) (ht : Tab w) (hok : EgOK g) :
    Calls Tryz.prog 57 #[.pointer (some ⟨E, 0, none⟩)] w (EPost E D m v vs w (anewE dOps g d (1 - g.ar)).1 (anewE dOps g d (1 - g.ar)).2.1 (anewE dOps g d (1 - g.ar)).2.2) := by
  have ca : w.cell? ⟨E, 146, none⟩ = some (.int .i64 (g.ar : Int)) := h.eg.sc 146 (.inr (by decide))
  have cg : w.cell? ⟨E, 147, none⟩ = some (.int .i64 (g.gn : Int)) := h.eg.sc 147 (.inr (by decide))
  have wa : wrap64 (1 - (g.ar : Int)) = ((1 - g.ar : Nat) : Int) := by have := hok.ar; unfold wrap64; omega
  have wg : wrap64 ((g.gn : Int) + 1) = ((g.gn + 1 : Nat) : Int) := by have := hok.gn; unfold wrap64; omega
  have HH := hide h
  have HT := hide (fun w' (hb : Below w.heap.size w w') => ht.below ht.pos hb)
  have HTb : Hid (∀ m' v' vs' w', EdFr E D m v vs m' v' vs' w w' → Tab w') := fun m' v' vs' w' hf => h.tab ht hf
  have HOk := hide hok
  have HTg := hide (fun w' (h' : EgAt E D g m v w') (ht' : Tab w') => together_any E D g m v w' h' ht' hok)
  have HTo := hide (fun w' => eturn_ok E w')
  clear h ht hok
  by_cases hsp : 4294967295 < g.gn + 1
  · have e : anewE dOps g d (1 - g.ar) = (16, g, d) := if_pos hsp
    rw [e]
    have hsp' : (4294967295 : Int) < ((g.gn + 1 : Nat) : Int) := by omega
    clear hsp
    generalize 1 - g.ar = ai at *
    generalize g.gn + 1 = g1 at *
    go_enter Tryz.func57, Tryz.ntmps57
    go_wp2_with fail
    go_quiet (fail)
    go_wp2_with fail
    go_ret
    exact ⟨rfl, m, v, vs, HH.out.drewN _, EdFr.of_below (below_drewN (Below.refl _ _) _)⟩
  have hsp' : ¬ (4294967295 : Int) < ((g.gn + 1 : Nat) : Int) := by omega
  have hg1 : g.gn + 1 ≤ 4294967295 := by omega
  have HG1 := hide hg1
  have HA1 : Hid (1 - g.ar ≤ 1) := Nat.sub_le _ _
  have HAw : Hid (∀ w' B u, w'.ownsRow B 71 2 u (togB g).length (bkCs (togB g)) → Calls Tryz.prog 91 #[.int .i64 ((g.gn + 1 : Nat) : Int), u] w' fun e' w'' => e' = .returned (.string (bya (frE g))) ∧ Below w'.heap.size w' w'') := fun w' B u ho => anewF_any B (g.gn + 1) u (knT (togB g)) w' (by rw [knT_len]; exact ho) (togB_ok HOk.out) (by rw [knT_len]; have := togB_len HOk.out; omega)
  by_cases hlo : 1500 < (frE g).length
  · have e : anewE dOps g d (1 - g.ar) = (14, g, d) := by unfold anewE; rw [if_neg hsp, if_pos hlo]
    rw [e]
    have hlo' : (1500 : Int) < ((bya (frE g)).size : Int) := by rw [bya_size]; omega
    clear hsp hlo hg1
    generalize bya (frE g) = FR at *
    generalize 1 - g.ar = ai at *
    generalize hg1 : g.gn + 1 = g1 at *
    clear hg1
    go_enter Tryz.func57, Tryz.ntmps57
    go_wp2_with fail
    go_quiet (fail)
    go_wp2_with fail
    have b0 : Below w.heap.size w (w.drewN nq) := below_drewN (Below.refl _ _) _
    have k0 := HH.out.up b0
    have HK0 := hide k0; have HB0 := hide b0
    refine (unhide HTg _ k0.eg (HT.out _ b0)).mono ?_
    rintro e w1 ⟨mv, nv, rfl, hbv, hb1⟩
    have hB1 : Below w.heap.size w w1 := b0.trans hb1
    have HB1 := hide hB1
    have HK1 := hide (HH.out.up hB1)
    have HFr1 : Hid (EdFr E D m v vs m v vs w w1) := EdFr.of_below hB1
    have HAn := hide (HAw.out w1 _ nv hbv.ls)
    obtain ⟨ob, rfl⟩ := hbv.map
    obtain ⟨ua, uc, rfl⟩ := owns_len hbv.ls
    have hfld := fun n => fld_bk ob ua n uc
    clear hbv hb1 b0 k0 hB1 ca cg HTg HAw
    go_wp2_with fail
    refine (unhide HAn).mono ?_
    rintro e w2 ⟨rfl, hb2⟩
    have hB2 : Below w.heap.size w w2 := HB1.out.trans (hb2.mono HB1.out.size)
    have HB2 := hide hB2
    have k2 := HH.out.up hB2
    have HK2 := hide k2
    have HFr2 : Hid (EdFr E D m v vs m v vs w w2) := EdFr.of_below hB2
    have c2 : w2.cell? ⟨E, 0, none⟩ = some (.pointer (some ⟨D, 0, none⟩)) := k2.eg.sc 0 (.inl (by decide))
    clear hb2 hB2 HAn k2
    go_wp2_with fail
    go_ret
    exact ⟨rfl, m, v, vs, HK2.out, HFr2.out⟩
  have hlo' : ¬ (1500 : Int) < ((bya (frE g)).size : Int) := by rw [bya_size]; omega
  have HSz : Hid ((bya (frE g)).size = (frE g).length) := bya_size _
  have HSm : Hid ((bya (frE g)).size ≤ 140737488351232) := by unfold Hid; rw [bya_size]; omega
  have HCl := hide (fun vs' w' (h' : DvAt D d vs' w') => dClear_any D d vs' ((1 - g.ar : Nat) : Int) w' h')
  have eA : anewE dOps g d (1 - g.ar) = if (dClear d ((1 - g.ar : Nat) : Int)).1 = 0 then (if (layE dOps g (dClear d ((1 - g.ar : Nat) : Int)).2 ((1 - g.ar : Nat) : Int) (frE g)).1 = 0 then (0, newE g (1 - g.ar) (frE g).length, (layE dOps g (dClear d ((1 - g.ar : Nat) : Int)).2 ((1 - g.ar : Nat) : Int) (frE g)).2.2) else (15, failE g, (layE dOps g (dClear d ((1 - g.ar : Nat) : Int)).2 ((1 - g.ar : Nat) : Int) (frE g)).2.2)) else (15, failE g, (dClear d ((1 - g.ar : Nat) : Int)).2) := by unfold anewE; rw [if_neg hsp, if_neg hlo]; rfl
  rw [eA]
  clear eA hsp hlo hg1
  generalize dClear d ((1 - g.ar : Nat) : Int) = rC at *
  obtain ⟨a1, d1⟩ := rC
  simp only at HCl ⊢
  by_cases ha : a1 = 0
  · subst ha
    rw [if_pos rfl]
    have HLy := hide (fun vs' w' (h' : EdAt E D g d1 m v vs' w') => elay_any E D g d1 m v vs' (1 - g.ar) (bya (frE g)) w' h' HSm.out)
    rw [lst_bya] at HLy
    have hcs := layE_cases dOps g d1 ((1 - g.ar : Nat) : Int) (frE g)
    generalize layE dOps g d1 ((1 - g.ar : Nat) : Int) (frE g) = rL at *
    obtain ⟨a2, g2, d2⟩ := rL
    simp only at hcs HLy ⊢
    rcases hcs with ⟨rfl, rfl⟩ | ⟨rfl, rfl⟩
    · rw [if_pos rfl]
      simp only
      unfold newE
      have HLn := hide (fun m' v' w' (h' : EgAt E D { g2 with ar := 1 - g2.ar, gn := g2.gn + 1, sz := (bya (frE g2)).size } m' v' w') (ht' : Tab w') => learn_any E D _ m' v' w' h' ht' (HOk.out.set3 _ HA1.out HG1.out))
      have HS3 := hide (fun (d' : DvN) (m' v' vs' : Nat → Value) w' (h' : EdAt E D g2 d' m' v' vs' w') W => h'.set3 (1 - g2.ar) (g2.gn + 1) (bya (frE g2)).size W)
      rw [← HSz.out]
      generalize bya (frE g2) = FR at *
      generalize hai : 1 - g2.ar = ai at *
      generalize hg1 : g2.gn + 1 = g1 at *
      clear hg1 hai
      go_enter Tryz.func57, Tryz.ntmps57
      go_wp2_with fail
      go_quiet (fail)
      go_wp2_with fail
      have b0 : Below w.heap.size w (w.drewN nq) := below_drewN (Below.refl _ _) _
      have k0 := HH.out.up b0
      have HK0 := hide k0; have HB0 := hide b0
      refine (unhide HTg _ k0.eg (HT.out _ b0)).mono ?_
      rintro e w1 ⟨mv, nv, rfl, hbv, hb1⟩
      have hB1 : Below w.heap.size w w1 := b0.trans hb1
      have HB1 := hide hB1
      have HK1 := hide (HH.out.up hB1)
      have HFr1 : Hid (EdFr E D m v vs m v vs w w1) := EdFr.of_below hB1
      have HAn := hide (HAw.out w1 _ nv hbv.ls)
      obtain ⟨ob, rfl⟩ := hbv.map
      obtain ⟨ua, uc, rfl⟩ := owns_len hbv.ls
      have hfld := fun n => fld_bk ob ua n uc
      clear hbv hb1 b0 k0 hB1 ca cg HTg HAw
      go_wp2_with fail
      refine (unhide HAn).mono ?_
      rintro e w2 ⟨rfl, hb2⟩
      have hB2 : Below w.heap.size w w2 := HB1.out.trans (hb2.mono HB1.out.size)
      have HB2 := hide hB2
      have k2 := HH.out.up hB2
      have HK2 := hide k2
      have HFr2 : Hid (EdFr E D m v vs m v vs w w2) := EdFr.of_below hB2
      have c2 : w2.cell? ⟨E, 0, none⟩ = some (.pointer (some ⟨D, 0, none⟩)) := k2.eg.sc 0 (.inl (by decide))
      clear hb2 hB2 HAn k2
      go_wp2_with fail
      refine (unhide HCl _ _ HK2.out.dv).mono ?_
      rintro e w3 ⟨rfl, vs3, hd3, hf3⟩
      obtain ⟨k3, f3⟩ := HK2.out.dev hd3 hf3
      have HK3 := hide k3; have HFr3 := hide (HFr2.out.trans f3)
      clear hd3 hf3 k3 f3 HCl c2
      go_wp2_with fail
      refine (unhide HTo _).mono ?_
      rintro e w' ⟨rfl, hw'⟩
      obtain rfl := hw'.symm
      go_wp2_with fail
      refine (unhide HLy _ _ HK3.out).mono ?_
      rintro e w4 ⟨rfl, m4, v4, vs4, k4, f4⟩
      have HK4 := hide k4; have HFr4 := hide (HFr3.out.trans f4)
      have c4 := k4.eg.sc 146 (.inr (by decide)); have c5 := k4.eg.sc 147 (.inr (by decide)); have c6 := k4.eg.sc 148 (.inr (by decide))
      have f4' := k4.eg.fz 146; have f5' := k4.eg.fz 147; have f6' := k4.eg.fz 148
      generalize scV D g2 146 = u4 at *
      generalize scV D g2 147 = u5 at *
      generalize scV D g2 148 = u6 at *
      clear k4 f4 HLy hfld
      go_wp2_with fail
      obtain ⟨k5, f5⟩ := HS3.out _ _ _ _ _ HK4.out _ rfl
      have HFr5 := hide (HFr4.out.trans f5)
      have HK5 := hide k5
      refine (unhide HLn _ _ _ k5.eg (HTb.out _ _ _ _ HFr5.out)).mono ?_
      rintro e w6 ⟨rfl, m6, v6, he6, hc6, eo6⟩
      have HE6 := hide (HK5.out.egs he6 hc6 eo6)
      clear k5 f5 he6 hc6 eo6 HLn
      go_wp2_with fail
      go_ret
      exact ⟨rfl, m6, v6, vs4, HE6.out.1, HFr5.out.trans HE6.out.2⟩
    · rw [if_neg (by decide)]
      simp only
      generalize bya (frE g) = FR at *
      generalize hai : 1 - g.ar = ai at *
      generalize hg1 : g.gn + 1 = g1 at *
      clear hg1 hai
      go_enter Tryz.func57, Tryz.ntmps57
      go_wp2_with fail
      go_quiet (fail)
      go_wp2_with fail
      have b0 : Below w.heap.size w (w.drewN nq) := below_drewN (Below.refl _ _) _
      have k0 := HH.out.up b0
      have HK0 := hide k0; have HB0 := hide b0
      refine (unhide HTg _ k0.eg (HT.out _ b0)).mono ?_
      rintro e w1 ⟨mv, nv, rfl, hbv, hb1⟩
      have hB1 : Below w.heap.size w w1 := b0.trans hb1
      have HB1 := hide hB1
      have HK1 := hide (HH.out.up hB1)
      have HFr1 : Hid (EdFr E D m v vs m v vs w w1) := EdFr.of_below hB1
      have HAn := hide (HAw.out w1 _ nv hbv.ls)
      obtain ⟨ob, rfl⟩ := hbv.map
      obtain ⟨ua, uc, rfl⟩ := owns_len hbv.ls
      have hfld := fun n => fld_bk ob ua n uc
      clear hbv hb1 b0 k0 hB1 ca cg HTg HAw
      go_wp2_with fail
      refine (unhide HAn).mono ?_
      rintro e w2 ⟨rfl, hb2⟩
      have hB2 : Below w.heap.size w w2 := HB1.out.trans (hb2.mono HB1.out.size)
      have HB2 := hide hB2
      have k2 := HH.out.up hB2
      have HK2 := hide k2
      have HFr2 : Hid (EdFr E D m v vs m v vs w w2) := EdFr.of_below hB2
      have c2 : w2.cell? ⟨E, 0, none⟩ = some (.pointer (some ⟨D, 0, none⟩)) := k2.eg.sc 0 (.inl (by decide))
      clear hb2 hB2 HAn k2
      go_wp2_with fail
      refine (unhide HCl _ _ HK2.out.dv).mono ?_
      rintro e w3 ⟨rfl, vs3, hd3, hf3⟩
      obtain ⟨k3, f3⟩ := HK2.out.dev hd3 hf3
      have HK3 := hide k3; have HFr3 := hide (HFr2.out.trans f3)
      clear hd3 hf3 k3 f3 HCl c2
      go_wp2_with fail
      refine (unhide HTo _).mono ?_
      rintro e w' ⟨rfl, hw'⟩
      obtain rfl := hw'.symm
      go_wp2_with fail
      refine (unhide HLy _ _ HK3.out).mono ?_
      rintro e w4 ⟨rfl, m4, v4, vs4, k4, f4⟩
      have HK4 := hide k4; have HFr4 := hide (HFr3.out.trans f4)
      clear k4 f4 HLy hfld
      go_wp2_with fail
      go_ret
      exact ⟨rfl, m4, v4, vs4, HK4.out, HFr4.out⟩
  · rw [if_neg ha]
    simp only
    have HNo := hide (fun vs' w' (h' : EdAt E D g d1 m v vs' w') => eturn_no E D g d1 m v vs' a1 w' h' ha)
    clear ha
    generalize bya (frE g) = FR at *
    generalize hai : 1 - g.ar = ai at *
    generalize hg1 : g.gn + 1 = g1 at *
    clear hg1 hai
    go_enter Tryz.func57, Tryz.ntmps57
    go_wp2_with fail
    go_quiet (fail)
    go_wp2_with fail
    have b0 : Below w.heap.size w (w.drewN nq) := below_drewN (Below.refl _ _) _
    have k0 := HH.out.up b0
    have HK0 := hide k0; have HB0 := hide b0
    refine (unhide HTg _ k0.eg (HT.out _ b0)).mono ?_
    rintro e w1 ⟨mv, nv, rfl, hbv, hb1⟩
    have hB1 : Below w.heap.size w w1 := b0.trans hb1
    have HB1 := hide hB1
    have HK1 := hide (HH.out.up hB1)
    have HFr1 : Hid (EdFr E D m v vs m v vs w w1) := EdFr.of_below hB1
    have HAn := hide (HAw.out w1 _ nv hbv.ls)
    obtain ⟨ob, rfl⟩ := hbv.map
    obtain ⟨ua, uc, rfl⟩ := owns_len hbv.ls
    have hfld := fun n => fld_bk ob ua n uc
    clear hbv hb1 b0 k0 hB1 ca cg HTg HAw
    go_wp2_with fail
    refine (unhide HAn).mono ?_
    rintro e w2 ⟨rfl, hb2⟩
    have hB2 : Below w.heap.size w w2 := HB1.out.trans (hb2.mono HB1.out.size)
    have HB2 := hide hB2
    have k2 := HH.out.up hB2
    have HK2 := hide k2
    have HFr2 : Hid (EdFr E D m v vs m v vs w w2) := EdFr.of_below hB2
    have c2 : w2.cell? ⟨E, 0, none⟩ = some (.pointer (some ⟨D, 0, none⟩)) := k2.eg.sc 0 (.inl (by decide))
    clear hb2 hB2 HAn k2
    go_wp2_with fail
    refine (unhide HCl _ _ HK2.out.dv).mono ?_
    rintro e w3 ⟨rfl, vs3, hd3, hf3⟩
    obtain ⟨k3, f3⟩ := HK2.out.dev hd3 hf3
    have HK3 := hide k3; have HFr3 := hide (HFr2.out.trans f3)
    clear hd3 hf3 k3 f3 HCl c2
    go_wp2_with fail
    refine (unhide HNo _ _ HK3.out).mono ?_
    rintro e w4 ⟨rfl, m4, v4, vs4, k4, f4⟩
    have HK4 := hide k4; have HFr4 := hide (HFr3.out.trans f4)
    clear k4 f4 HNo hfld
    go_wp2_with fail
    go_ret
    exact ⟨rfl, m4, v4, vs4, HK4.out, HFr4.out⟩
end Go.Proofs.YtmmflekajbeamabGreatDoor
