/-
  Kept: a step and what must be known behind it (keeps): the steps that lay nothing down.
  Warm: the pieces of a run, walked one by one.
  Warm: small lemmas of the walk.
  Kept: a Persist or a Compact, and what must be known behind it (keeps).
  Kept: a Persist or a Compact of an engine, and what must be known behind it (keeps).
  Kept: the law.
-/
import Derived.Test.YtmmflekajbeamabGreatDoorK35
import Derived.Test.YtmmflekajbeamabGreatDoorK32
import Derived.Test.YtmmflekajbeamabGreatDoorK33
import Derived.Test.YtmmflekajbeamabGreatDoorK14
import Derived.Test.YtmmflekajbeamabGreatDoorK26
namespace Go.Proofs.YtmmflekajbeamabGreatDoor
open Go.RowKit Go.Maps Go.WideMaps

theorem KsPost.imp {K : List KwN} {G N B : Nat} {b : Bn} {oe : Option En} {m k : Nat} {st st' : Prop} {w w' : World} {e : Ending} (f : st' → st) (h : KsPost K G N B b oe m k st w e w') : KsPost K G N B b oe m k st' w e w' := by
  obtain ⟨rfl, b', oe', h1, h2, h3, h4, h5⟩ := h
  exact ⟨rfl, b', oe', h1, h2, h3, h4, fun q => h5 (f q)⟩
theorem stepK {K : List KwN} {G N B : Nat} {b : Bn} {oe : Option En} {m k : Nat} {w : World} (h : BnAt N B b oe m k w) (ki : KI K G b.d (oe.map (·.g))) (hN : N ≤ w.heap.size) (h0 : 0 < N) (ht : Tab w) (hm : m ≤ 100000000000000) (hk : 1500 ≤ k ∧ k ≤ 99999900000) (kd a b' : Int) (s : ByteArray) (ok : SbOK kd a b' s) (hs : s.size ≤ 3) (j : Nat) (hj : pickI kd 6 = (j : Int)) (hc : j = 0 ∨ j = 3 ∨ j = 4 ∨ j = 5) :
    Calls Tryz.prog 25 #[.pointer (some ⟨B, 0, none⟩), .agg (spC kd a b' s), .int .i64 6] w (KsPost K G N B b oe m k (j = 3 ∨ j = 4) w) := by
  rcases hc with rfl | rfl | rfl | rfl
  · exact (step0K h ki hN h0 ht hk.2 kd a b' 6 s ok (by decide) hj).mono (fun _ _ q => q.imp (fun c => by omega))
  · exact (step3K h ki hN h0 ht hm hk.1 kd a b' 6 s ok (by decide) hj hs).mono (fun _ _ q => q.imp (fun _ => trivial))
  · exact (step4K h ki hN h0 ht hm hk.1 kd a b' 6 s ok (by decide) hj).mono (fun _ _ q => q.imp (fun _ => trivial))
  · exact (step5K h ki hN kd a b' 6 s ok (by decide) hj).mono (fun _ _ q => q.imp (fun c => by omega))
theorem holdsK {K : List KwN} {G N B : Nat} {b : Bn} {oe : Option En} {m k : Nat} {w : World} (h : BnAt N B b oe m k w) (ki : KI K G b.d (oe.map (·.g))) (mu : MuAt K B b oe w) (hN : N ≤ w.heap.size) (h0 : 0 < N) (ht : Tab w) (hk : k ≤ 99999900000) (hKl : K.length ≤ 1000000000000) (al : ∀ e, oe = some e → ∀ s ∈ wdL K, ∃ q ∈ e.g.b 0, wdsT q.1 = s) :
    Calls Tryz.prog 12 #[.pointer (some ⟨B, 0, none⟩)] w fun e' w' => e' = .returned (.bool true) ∧ Below w.heap.size w w' := by
  cases oe with
  | none => exact holds_none h
  | some e =>
    have ow := (ki.ow e.g rfl).o0
    exact holds_some h h0 hN ht hk mu hKl ow (known_all ki.mo ow (al e rfl))
/-- What keeps leaves. -/
def KeFin (G N B : Nat) (b : Bn) (oe : Option En) (m k : Nat) (w w' : World) : Prop :=
  ∃ K' b' oe', BnAt N B b' oe' (m + 3) (k + 8004) w' ∧ FrB B b oe b' oe' w w' ∧ KI K' (G + 1) b'.d (oe'.map (·.g)) ∧ MuAt K' B b' oe' w' ∧ K'.length ≤ k + 8004
def KePost (G N B : Nat) (b : Bn) (oe : Option En) (m k : Nat) (w : World) (e' : Ending) (w' : World) : Prop := e' = .returned (.bool true) ∧ KeFin G N B b oe m k w w'
/-- The box of a step, its text cut. -/
structure SbC (N B : Nat) (b : Bn) (oe : Option En) (m k : Nat) (kd a b' : Int) (t : ByteArray) (w W : World) : Prop where
  bn : BnAt N B b oe m k W
  bel : Below w.heap.size w W
  rg : W.rangeAt w.heap.size 0 (spC kd a b' t).toList
theorem sbc_new {N B : Nat} {b : Bn} {oe : Option En} {m k : Nat} {kd a b' : Int} {s : ByteArray} {w W : World} (hN : N ≤ w.heap.size) (h : BnAt N B b oe m k w) (hX : Sbx N B b oe m k kd a b' s w W) (t : ByteArray) (W2 : World) (e : W2 = W.setCell ⟨w.heap.size, 3, none⟩ (.string t)) : SbC N B b oe m k kd a b' t w W2 := by
  have hb : Below w.heap.size w W2 := by rw [e]; exact hX.bel.setCell (p := ⟨w.heap.size, 3, none⟩) (Nat.le_refl _) _
  refine ⟨h.up hN hb, hb, fun j u q => ?_⟩
  rw [e, Nat.zero_add]
  match j, q with
  | 0, q => cases q; exact (cell_off (by decide)).trans hX.c0
  | 1, q => cases q; exact (cell_off (by decide)).trans hX.c1
  | 2, q => cases q; exact (cell_off (by decide)).trans hX.c2
  | 3, q => cases q; exact World.cell?_setCell_same _ _ _ hX.c3
  | j + 4, q => cases q
theorem ke_end {K : List KwN} {G N B : Nat} {b : Bn} {oe : Option En} {m k : Nat} {st : Prop} {w W2 w3 w4 : World} (hN : N ≤ w.heap.size) (hb2 : Below w.heap.size w W2) (h3 : KsFin K G N B b oe m k st W2 w3) (mu : MuAt K B b oe w) (hKl : K.length ≤ k) (hb4 : Below w3.heap.size w3 w4) : KeFin G N B b oe m k w w4 := by
  obtain ⟨b', oe', h1, h2, h3, h4, _⟩ := h3
  have hN3 : N ≤ w3.heap.size := Nat.le_trans (Nat.le_trans hN hb2.size) h2.chg.size
  exact ⟨K, b', oe', h1.up hN3 hb4, ((FrB.of_below hb2).trans h2).up hb4, h3, ((mu.up hb2).keep h2 h4).up hb4, by omega⟩
theorem ke_hold {K : List KwN} {G N B : Nat} {b : Bn} {oe : Option En} {m k : Nat} {st : Prop} {w W2 w3 : World} (hN : N ≤ w.heap.size) (h0 : 0 < N) (hb2 : Below w.heap.size w W2) (h3 : KsFin K G N B b oe m k st W2 w3) (hst : st) (hge : ∀ x, ownB B b oe x → N ≤ x) (mu : MuAt K B b oe w) (ht : Tab w) (hKl : K.length ≤ k) (hk : k ≤ 99999800000) :
    Calls Tryz.prog 12 #[.pointer (some ⟨B, 0, none⟩)] w3 fun e' w' => e' = .returned (.bool true) ∧ Below w3.heap.size w3 w' := by
  obtain ⟨b', oe', h1, h2, h3, h4, h5⟩ := h3
  have hN2 := Nat.le_trans hN hb2.size
  have hN3 : N ≤ w3.heap.size := Nat.le_trans hN2 h2.chg.size
  exact holdsK h1 h3 ((mu.up hb2).keep h2 h4) hN3 h0 (ht.below h0 ((hb2.mono hN).trans (h2.below hN2 hge))) (by omega) (by omega) (h5 hst)
set_option maxRecDepth 100000 in
set_option maxHeartbeats 8000000 in
theorem keepsO {K : List KwN} {G N B : Nat} {b : Bn} {oe : Option En} {m k : Nat} {w : World} (h : BnAt N B b oe m k w) (ki : KI K G b.d (oe.map (·.g))) (mu : MuAt K B b oe w) (hKl : K.length ≤ k) (hN : N ≤ w.heap.size) (h0 : 0 < N) (ht : Tab w) (hm : m ≤ 100000000000000) (hk : 1500 ≤ k ∧ k ≤ 99999800000) (kd a b' : Int) (s : ByteArray) (ok : SbOK kd a b' s) (hs : s.size ≤ 1000000000) (j : Nat) (hj : pickI kd 6 = (j : Int)) (hc : j = 0 ∨ j = 3 ∨ j = 4 ∨ j = 5) :
    Calls Tryz.prog 9 #[.pointer (some ⟨B, 0, none⟩), .agg (spC kd a b' s)] w (KePost G N B b oe m k w) := by
  obtain ⟨W, hW⟩ : ∃ W, W = w.alloc (.cells (spC kd a b' s) 33) := ⟨_, rfl⟩
  have hX := sbx_new h hN kd a b' s W hW
  have HW := hide hW
  have c0 := hX.c0
  have c3 := hX.c3
  have HP := hide (fun w' => pick_any kd 6 w' ok.kd.1 ok.kd.2 (by decide) (by decide))
  rw [hj] at HP
  have HU := hide (upTo_any s W (by omega))
  have HSb : Hid (∀ t W2, t.size ≤ 3 → W2 = W.setCell ⟨w.heap.size, 3, none⟩ (.string t) → SbC N B b oe m k kd a b' t w W2) := fun t W2 _ e => sbc_new hN h hX t W2 e
  have f3 : W.frozen? ⟨w.heap.size, 3, none⟩ = false := by
    have r : W.heap[w.heap.size]? = some (.cells (spC kd a b' s) 33 (0, 0)) := by rw [hW, _root_.Go.heap_alloc_new]
    unfold World.frozen?; rw [r]; simp
  have HSt : Hid (∀ t W2, t.size ≤ 3 → SbC N B b oe m k kd a b' t w W2 → Calls Tryz.prog 25 #[.pointer (some ⟨B, 0, none⟩), .agg (spC kd a b' t), .int .i64 6] W2 (KsPost K G N B b oe m k (j = 3 ∨ j = 4) W2)) := fun t W2 ht3 q => stepK q.bn ki (Nat.le_trans hN q.bel.size) h0 (ht.below h0 (q.bel.mono hN)) hm ⟨hk.1, by omega⟩ kd a b' t ⟨ok.kd, ok.a, ok.b, by omega⟩ ht3 j hj hc
  have HLn : Hid (∀ t, (Tryz.prog.info? 33).map (·.size) = some (spC kd a b' t).toList.length) := fun t => sizeSp
  have HEnd : Hid (∀ st W2 w3 w4, Below w.heap.size w W2 → KsFin K G N B b oe m k st W2 w3 → Below w3.heap.size w3 w4 → KeFin G N B b oe m k w w4) := fun st W2 w3 w4 q1 q2 q3 => ke_end hN q1 q2 mu hKl q3
  have HHo : Hid (∀ (st : Prop) W2 w3, st → Below w.heap.size w W2 → KsFin K G N B b oe m k st W2 w3 → Calls Tryz.prog 12 #[.pointer (some ⟨B, 0, none⟩)] w3 fun e' w' => e' = .returned (.bool true) ∧ Below w3.heap.size w3 w') := fun st W2 w3 q0 q1 q2 => ke_hold hN h0 q1 q2 q0 h.ge mu ht hKl hk.2
  clear h ki mu hW hX ok hs hj ht hm hk hKl
  generalize hSC : spC kd a b' s = SC at *
  clear hSC
  rcases hc with rfl | rfl | rfl | rfl
  all_goals
    go_enter Tryz.func9, Tryz.ntmps9
    go_upto_region 1 with fail
    rw [← HW.out]
    go_wp2_with fail
    refine (unhide HP _).mono ?_
    rintro e w' ⟨rfl, hw⟩
    obtain rfl := hw.symm
    go_wp2_with fail
    refine (unhide HU).mono ?_
    rintro e w' ⟨⟨t, rfl, ht3⟩, hw⟩
    obtain rfl := hw.symm
    go_upto_region 3 with fail
    obtain ⟨W2, hW2⟩ : ∃ W2, W2 = W.setCell ⟨w.heap.size, 3, none⟩ (.string t) := ⟨_, rfl⟩
    have hsb := HSb.out t W2 ht3 hW2
    rw [← hW2]
    have HB2 := hide hsb.bel
    have HC := hide (HSt.out t W2 ht3 hsb)
    have HRg := hide hsb.rg
    have HL := hide (HLn.out t)
    clear hW2 hsb c0 c3 f3 HSb HSt HLn HU HP
    generalize spC kd a b' t = OC at *
    go_wp2_with (refine wpList_load_mid rfl 33 _ rfl w.heap.size 0 rfl OC.toList _ HRg.out Tryz.underlying33 rfl HL.out ?_)
    refine (unhide HC).mono ?_
    rintro e w3 ⟨rfl, h3⟩
    have HK3 := hide h3
    clear h3 HC HRg HL
  · go_wp2_with fail
    go_ret
    exact ⟨rfl, HEnd.out _ W2 w3 w3 HB2.out HK3.out (Below.refl _ _)⟩
  · have HHq := hide (HHo.out _ W2 w3 (by decide) HB2.out HK3.out)
    go_wp2_with fail
    refine (unhide HHq).mono ?_
    rintro e w4 ⟨rfl, hb4⟩
    have HF := hide (HEnd.out _ W2 w3 w4 HB2.out HK3.out hb4)
    clear hb4 HHq
    go_wp2_with fail
    go_ret
    exact ⟨rfl, HF.out⟩
  · have HHq := hide (HHo.out _ W2 w3 (by decide) HB2.out HK3.out)
    go_wp2_with fail
    refine (unhide HHq).mono ?_
    rintro e w4 ⟨rfl, hb4⟩
    have HF := hide (HEnd.out _ W2 w3 w4 HB2.out HK3.out hb4)
    clear hb4 HHq
    go_wp2_with fail
    go_ret
    exact ⟨rfl, HF.out⟩
  · go_wp2_with fail
    go_ret
    exact ⟨rfl, HEnd.out _ W2 w3 w3 HB2.out HK3.out (Below.refl _ _)⟩
end Go.Proofs.YtmmflekajbeamabGreatDoor

namespace Go.Proofs.YtmmflekajbeamabGreatDoor
open Go.RowKit Go.Maps Go.WideMaps

end Go.Proofs.YtmmflekajbeamabGreatDoor

namespace Go.Proofs.YtmmflekajbeamabGreatDoor
open Go.RowKit Go.Maps Go.WideMaps

theorem BnAt.own_lt {N B : Nat} {b : Bn} {oe : Option En} {m k : Nat} {w : World} (h : BnAt N B b oe m k w) {x : Nat} (hx : ownB B b oe x) : x < w.heap.size := by
  rcases hx with rfl | q | ⟨e, he, q⟩
  · exact h.1.lt
  · exact h.1.has q
  · exact (h.2.2 e he).has q
end Go.Proofs.YtmmflekajbeamabGreatDoor

namespace Go.Proofs.YtmmflekajbeamabGreatDoor
open Go.RowKit Go.Maps Go.WideMaps

/-- What must be known set. -/
theorem BnAt.setM {N B : Nat} {b : Bn} {oe : Option En} {m k : Nat} {w : World} (h : BnAt N B b oe m k w) (u : Value) : BnAt N B { b with mv := u } oe m k (w.setCell ⟨B, 140, none⟩ u) := by
  have hne : ∀ x, b.has x → x ≠ B := fun x q e => h.1.nB (by rw [← e]; exact q)
  have hd := h.1
  have c1 : (w.setCell ⟨B, 140, none⟩ u).cell? ⟨B, 1, none⟩ = w.cell? ⟨B, 1, none⟩ := cell_off (by decide)
  refine ⟨⟨by rw [set_size]; exact hd.lt, fun k => by rw [World.frozen?_setCell]; exact hd.fz k, (cell_off (by decide)).trans hd.c0, ?_, fun j x e => ?_, World.cell?_setCell_same _ _ _ hd.mu, (World.cell?_of_block (set_other (hne _ (.inl rfl)))).trans hd.x, hd.dv.kept (by rw [set_size]; exact Nat.le_refl _) (fun x q => set_other (hne x (.inr q))), hd.ok, hd.wk, hd.z, hd.ge, hd.nB, hd.nX⟩, fun e => c1.trans (h.2.1 e), fun e he => ?_⟩
  · obtain ⟨v, q⟩ := hd.c1
    exact ⟨v, c1.trans q⟩
  · have hl : j < 138 := by
      have := (List.getElem?_eq_some_iff.1 e).1
      rw [List.length_map, hd.z.len] at this
      exact this
    exact (cell_off (by omega)).trans (hd.st j x e)
  · have q := (h.2.2 e he).off (w' := w.setCell ⟨B, 140, none⟩ u) (fun x hx => set_other hx) c1
    exact ⟨q.c1, q.x, q.eg, q.ok, q.z, q.ge, q.nB, q.nX, q.sp⟩
theorem MuAt.new {K : List KwN} {N B : Nat} {b : Bn} {oe : Option En} {m k : Nat} {w w1 : World} {u : Value} (h : BnAt N B b oe m k w) (ho : w1.ownsRow w.heap.size 71 2 u (knT K).length (knCs (knT K))) : MuAt K B { b with mv := u } oe (w1.setCell ⟨B, 140, none⟩ u) := by
  have hB := h.1.lt
  refine ⟨⟨w.heap.size, ownsRow_keep ho (fun g hg => set_other (fun e => ?_))⟩, fun g hg => ?_⟩
  · have := (row_lt ho g hg).1
    omega
  · obtain ⟨r1, r2⟩ := row_lt ho g hg
    refine ⟨fun c => ?_, by rw [set_size]; exact r2⟩
    have c' : ownB B b oe g := c
    have := h.own_lt c'
    omega
set_option maxRecDepth 100000 in
set_option maxHeartbeats 8000000 in
theorem keepsN {K : List KwN} {G N B : Nat} {b : Bn} {m k : Nat} {w : World} (h : BnAt N B b none m k w) (ki : KI K G b.d none) (mu : MuAt K B b none w) (hKl : K.length ≤ k) (hN : N ≤ w.heap.size) (kd a b' : Int) (s : ByteArray) (ok : SbOK kd a b' s) (hs : s.size ≤ 1000000000) (c : Bool) (hj : pickI kd 6 = if c = true then 2 else 1) :
    Calls Tryz.prog 9 #[.pointer (some ⟨B, 0, none⟩), .agg (spC kd a b' s)] w (KePost G N B b none m k w) := by
  obtain ⟨W, hW⟩ : ∃ W, W = w.alloc (.cells (spC kd a b' s) 33) := ⟨_, rfl⟩
  have hX := sbx_new h hN kd a b' s W hW
  have HW := hide hW
  have c0 := hX.c0
  have c3 := hX.c3
  have HP := hide (fun w' => pick_any kd 6 w' ok.kd.1 ok.kd.2 (by decide) (by decide))
  rw [hj] at HP
  have HU := hide (upTo_any s W (by omega))
  have HSb : Hid (∀ t W2, t.size ≤ 3 → W2 = W.setCell ⟨w.heap.size, 3, none⟩ (.string t) → SbC N B b none m k kd a b' t w W2) := fun t W2 _ e => sbc_new hN h hX t W2 e
  have f3 : W.frozen? ⟨w.heap.size, 3, none⟩ = false := by
    have r : W.heap[w.heap.size]? = some (.cells (spC kd a b' s) 33 (0, 0)) := by rw [hW, _root_.Go.heap_alloc_new]
    unfold World.frozen?; rw [r]; simp
  have HEnd : Hid (∀ W2, BnAt N B b none m k W2 → Below w.heap.size w W2 → KeFin G N B b none m k w W2) := fun W2 q1 q2 => ⟨K, b, none, q1.more (by omega) (by omega), FrB.of_below q2, ki.more (Nat.le_succ _), mu.up q2, by omega⟩
  clear h ki mu hW hX ok hs hj hKl
  generalize hSC : spC kd a b' s = SC at *
  clear hSC
  cases c with
  | false =>
    rw [if_neg (by decide)] at HP
    go_enter Tryz.func9, Tryz.ntmps9
    go_upto_region 1 with fail
    rw [← HW.out]
    go_wp2_with fail
    refine (unhide HP _).mono ?_
    rintro e w' ⟨rfl, hw⟩
    obtain rfl := hw.symm
    go_wp2_with fail
    refine (unhide HU).mono ?_
    rintro e w' ⟨⟨t, rfl, ht3⟩, hw⟩
    obtain rfl := hw.symm
    go_upto_region 3 with fail
    obtain ⟨W2, hW2⟩ : ∃ W2, W2 = W.setCell ⟨w.heap.size, 3, none⟩ (.string t) := ⟨_, rfl⟩
    have hsb := HSb.out t W2 ht3 hW2
    rw [← hW2]
    have c1 := hsb.bn.2.1 rfl
    have HL := hide (laid_nil hsb.bn false)
    have HF := hide (HEnd.out W2 hsb.bn hsb.bel)
    clear hW2 hsb c0 c3 f3 HSb HU HP HEnd
    go_wp2_with fail
    refine (unhide HL).mono ?_
    rintro e w' ⟨rfl, hw⟩
    obtain rfl := hw.symm
    go_wp2_with fail
    go_ret
    exact ⟨rfl, HF.out⟩
  | true =>
    rw [if_pos rfl] at HP
    go_enter Tryz.func9, Tryz.ntmps9
    go_upto_region 1 with fail
    rw [← HW.out]
    go_wp2_with fail
    refine (unhide HP _).mono ?_
    rintro e w' ⟨rfl, hw⟩
    obtain rfl := hw.symm
    go_wp2_with fail
    refine (unhide HU).mono ?_
    rintro e w' ⟨⟨t, rfl, ht3⟩, hw⟩
    obtain rfl := hw.symm
    go_upto_region 3 with fail
    obtain ⟨W2, hW2⟩ : ∃ W2, W2 = W.setCell ⟨w.heap.size, 3, none⟩ (.string t) := ⟨_, rfl⟩
    have hsb := HSb.out t W2 ht3 hW2
    rw [← hW2]
    have c1 := hsb.bn.2.1 rfl
    have HL := hide (laid_nil hsb.bn true)
    have HF := hide (HEnd.out W2 hsb.bn hsb.bel)
    clear hW2 hsb c0 c3 f3 HSb HU HP HEnd
    go_wp2_with fail
    refine (unhide HL).mono ?_
    rintro e w' ⟨rfl, hw⟩
    obtain rfl := hw.symm
    go_wp2_with fail
    go_ret
    exact ⟨rfl, HF.out⟩
end Go.Proofs.YtmmflekajbeamabGreatDoor

namespace Go.Proofs.YtmmflekajbeamabGreatDoor
open Go.RowKit Go.Maps Go.WideMaps

/-- The engine's list of what it knows. -/
theorem known_b {N B : Nat} {b : Bn} {e : En} {m k : Nat} {w : World} (h : BnAt N B b (some e) m k w) (hk : k ≤ 99999900000) :
    Calls Tryz.prog 19 #[.pointer (some ⟨e.X, 0, none⟩)] w fun e' w' => ∃ u, e' = .returned u ∧ w'.ownsRow w.heap.size 71 2 u (knT (e.g.b 0)).length (knCs (knT (e.g.b 0))) ∧ Below w.heap.size w w' := by
  have hE := h.2.2 e rfl
  refine cKnown_of e.X e.E w hE.x _ (fun e' w' q => by obtain ⟨u, q, _⟩ := q; exact ⟨u, q⟩) (eKnown_any e.E b.D e.g e.m e.v w hE.eg ?_)
  have := hE.ok.sm
  omega
theorem wr_small {x y : Nat} (h : x + y ≤ 99999800000) : wrap64 ((x : Int) + (y : Int)) = (x : Int) + (y : Int) := by unfold wrap64; omega
theorem wi_small {x y : Nat} (h : x + y ≤ 99999800000) : IntKind.i64.wrap ((x : Int) + (y : Int)) = ((x + y : Nat) : Int) := by
  simp only [IntKind.wrap, IntKind.signed, IntKind.bits]
  simp
  omega
/-- Behind a Persist or a Compact that answered OK. -/
theorem kl_done {K : List KwN} {G N B : Nat} {b : Bn} {e : En} {m k : Nat} {c : Bool} {w w5 w6 w7 : World} {u : Value} (h : BnAt N B b (some e) m k w) (ki : KI K G b.d (some e.g)) (hN : N ≤ w.heap.size) (hb : Below w.heap.size w w5) (r0 : (ldB b e.g c).1 = 0) (hl : LdFin N B b e (ldB b e.g c) m k w5 w6) (ho : w7.ownsRow w6.heap.size 71 2 u (knT ((ldB b e.g c).2.1.b 0)).length (knCs (knT ((ldB b e.g c).2.1.b 0)))) (hb7 : Below w6.heap.size w6 w7) : KeFin G N B b (some e) m k w (w7.setCell ⟨B, 140, none⟩ u) := by
  obtain ⟨m1, v1, vs', h1, h2⟩ := hl
  have hE := h.2.2 e rfl
  obtain ⟨k1, _⟩ := ki.laid h.1.ok hE.ok c
  obtain ⟨q1, q2⟩ := k1 r0
  have hN6 : N ≤ w6.heap.size := Nat.le_trans (Nat.le_trans hN hb.size) h2.chg.size
  have h7 := h1.up hN6 hb7
  refine ⟨_, _, _, (h7.setM u).more (by omega) (by omega), (((FrB.of_below hb).trans h2).up hb7).at (Chg.set w7 B 140 u) (fun x q => .inl q), q1, MuAt.new h1 ho, ?_⟩
  rw [q2]
  have := hE.ok.sm
  omega
theorem kl_not {K : List KwN} {G N B : Nat} {b : Bn} {e : En} {m k : Nat} {c : Bool} {w w5 w6 : World} (h : BnAt N B b (some e) m k w) (ki : KI K G b.d (some e.g)) (mu : MuAt K B b (some e) w) (hKl : K.length ≤ k) (hb : Below w.heap.size w w5) (r0 : (ldB b e.g c).1 ≠ 0) (hl : LdFin N B b e (ldB b e.g c) m k w5 w6) : KeFin G N B b (some e) m k w w6 := by
  obtain ⟨m1, v1, vs', h1, h2⟩ := hl
  obtain ⟨_, k2⟩ := ki.laid h.1.ok (h.2.2 e rfl).ok c
  exact ⟨K, _, _, h1.more (by omega) (by omega), (FrB.of_below hb).trans h2, k2 r0, (mu.up hb).keep h2 rfl, by omega⟩
set_option maxRecDepth 100000 in
set_option maxHeartbeats 8000000 in
theorem keepsL {K : List KwN} {G N B : Nat} {b : Bn} {e : En} {m k : Nat} {w : World} (h : BnAt N B b (some e) m k w) (ki : KI K G b.d (some e.g)) (mu : MuAt K B b (some e) w) (hKl : K.length ≤ k) (hN : N ≤ w.heap.size) (h0 : 0 < N) (ht : Tab w) (hk : k ≤ 99999800000) (kd a b' : Int) (s : ByteArray) (ok : SbOK kd a b' s) (hs : s.size ≤ 1000000000) (c : Bool) (hj : pickI kd 6 = if c = true then 2 else 1) :
    Calls Tryz.prog 9 #[.pointer (some ⟨B, 0, none⟩), .agg (spC kd a b' s)] w (KePost G N B b (some e) m k w) := by
  obtain ⟨W, hW⟩ : ∃ W, W = w.alloc (.cells (spC kd a b' s) 33) := ⟨_, rfl⟩
  have hX := sbx_new h hN kd a b' s W hW
  have HW := hide hW
  have c0 := hX.c0
  have c3 := hX.c3
  have HP := hide (fun w' => pick_any kd 6 w' ok.kd.1 ok.kd.2 (by decide) (by decide))
  rw [hj] at HP
  have HU := hide (upTo_any s W (by omega))
  have HSb : Hid (∀ t W2, t.size ≤ 3 → W2 = W.setCell ⟨w.heap.size, 3, none⟩ (.string t) → SbC N B b (some e) m k kd a b' t w W2) := fun t W2 _ e => sbc_new hN h hX t W2 e
  have f3 : W.frozen? ⟨w.heap.size, 3, none⟩ = false := by
    have r : W.heap[w.heap.size]? = some (.cells (spC kd a b' s) 33 (0, 0)) := by rw [hW, _root_.Go.heap_alloc_new]
    unfold World.frozen?; rw [r]; simp
  have hE := h.2.2 e rfl
  have HCt : Hid (∀ W2, Below w.heap.size w W2 → Calls Tryz.prog 15 #[.pointer (some ⟨e.X, 0, none⟩)] W2 fun e' w' => e' = .returned (.agg #[.int .i64 (e.g.c 0 : Int), .int .i64 (e.g.c 1 : Int), .int .i64 (e.g.c 2 : Int), .int .i64 (e.g.c 3 : Int), .int .i64 ((e.g.b 1).length : Int)]) ∧ Below W2.heap.size W2 w') := fun W2 q => by
    have r := (h.up hN q).2.2 e rfl
    exact cCounts_any e.X e.E b.D e.g e.m e.v W2 r.x r.eg
  have HKn : Hid (∀ W2, Below w.heap.size w W2 → Calls Tryz.prog 19 #[.pointer (some ⟨e.X, 0, none⟩)] W2 fun e' w' => ∃ u, e' = .returned u ∧ w'.ownsRow W2.heap.size 71 2 u (knT (e.g.b 0)).length (knCs (knT (e.g.b 0))) ∧ Below W2.heap.size W2 w') := fun W2 q => known_b (h.up hN q) (by omega)
  have HLd : Hid (∀ W2, Below w.heap.size w W2 → Calls Tryz.prog 24 #[.pointer (some ⟨B, 0, none⟩), .bool c] W2 fun e' w' => e' = .returned (.tuple #[.bool (decide ((ldB b e.g c).1 = 0)), .bool true]) ∧ LdFin N B b e (ldB b e.g c) m k W2 w') := fun W2 q => laid_any (h.up hN q) (Nat.le_trans hN q.size) (ht.below h0 (q.mono hN)) (by omega) c
  have HC1 : Hid (∀ W2, Below w.heap.size w W2 → W2.cell? ⟨B, 1, none⟩ = some (.pointer (some ⟨e.X, 0, none⟩))) := fun W2 q => ((h.up hN q).2.2 e rfl).c1
  have HDo : Hid (∀ w5 w6 w7 u, (ldB b e.g c).1 = 0 → Below w.heap.size w w5 → LdFin N B b e (ldB b e.g c) m k w5 w6 → w7.ownsRow w6.heap.size 71 2 u (knT ((ldB b e.g c).2.1.b 0)).length (knCs (knT ((ldB b e.g c).2.1.b 0))) → Below w6.heap.size w6 w7 → KeFin G N B b (some e) m k w (w7.setCell ⟨B, 140, none⟩ u)) := fun w5 w6 w7 u q1 q2 q3 q4 q5 => kl_done h ki hN q2 q1 q3 q4 q5
  have HNo : Hid (∀ w5 w6, (ldB b e.g c).1 ≠ 0 → Below w.heap.size w w5 → LdFin N B b e (ldB b e.g c) m k w5 w6 → KeFin G N B b (some e) m k w w6) := fun w5 w6 q1 q2 q3 => kl_not h ki mu hKl q2 q1 q3
  have HAt : Hid (∀ w5 w6, LdFin N B b e (ldB b e.g c) m k w5 w6 → w6.cell? ⟨B, 1, none⟩ = some (.pointer (some ⟨e.X, 0, none⟩)) ∧ (∃ v, w6.cell? ⟨B, 140, none⟩ = some v) ∧ w6.frozen? ⟨B, 140, none⟩ = false ∧ B < w6.heap.size ∧ Calls Tryz.prog 19 #[.pointer (some ⟨e.X, 0, none⟩)] w6 fun e' w' => ∃ u, e' = .returned u ∧ w'.ownsRow w6.heap.size 71 2 u (knT ((ldB b e.g c).2.1.b 0)).length (knCs (knT ((ldB b e.g c).2.1.b 0))) ∧ Below w6.heap.size w6 w') := fun w5 w6 q => by
    obtain ⟨m1, v1, vs', h1, _⟩ := q
    exact ⟨(h1.2.2 _ rfl).c1, ⟨_, h1.1.mu⟩, h1.1.fz _, h1.1.lt, known_b h1 (by omega)⟩
  have HLen : Hid ((ldB b e.g c).1 = 0 → (knT ((ldB b e.g c).2.1.b 0)).length = (e.g.b 1).length + (knT (e.g.b 0)).length) := fun r0 => by
    have q := (ki.laid h.1.ok hE.ok c).1 r0
    rw [knT_len, knT_len, q.2, Nat.add_comm]
  have hsm := hE.ok.sm
  have hw0 : (e.g.b 1).length + (knT (e.g.b 0)).length ≤ 99999800000 := by rw [knT_len]; omega
  have hwa : wrap64 (((e.g.b 1).length : Int) + ((knT (e.g.b 0)).length : Int)) = ((e.g.b 1).length : Int) + ((knT (e.g.b 0)).length : Int) := wr_small hw0
  have hwb : IntKind.i64.wrap (((e.g.b 1).length : Int) + ((knT (e.g.b 0)).length : Int)) = ((e.g.b 1).length : Int) + ((knT (e.g.b 0)).length : Int) := by rw [wi_small hw0]; omega
  clear h ki mu hW hX ok hs ht hk hKl hE hsm
  generalize hSC : spC kd a b' s = SC at *
  clear hSC
  generalize (e.g.b 1).length = L1 at *
  generalize knT (e.g.b 0) = l0 at *
  generalize ldB b e.g c = R at *
  generalize knT (R.2.1.b 0) = l2 at *
  generalize e.g.c 0 = C0 at *
  generalize e.g.c 1 = C1 at *
  generalize e.g.c 2 = C2 at *
  generalize e.g.c 3 = C3 at *
  cases c
  rw [if_neg (by decide)] at HP
  rotate_left
  rw [if_pos rfl] at HP
  all_goals
    go_enter Tryz.func9, Tryz.ntmps9
    go_upto_region 1 with fail
    rw [← HW.out]
    go_wp2_with fail
    refine (unhide HP _).mono ?_
    rintro e' w' ⟨rfl, hw⟩
    obtain rfl := hw.symm
    go_wp2_with fail
    refine (unhide HU).mono ?_
    rintro e' w' ⟨⟨t, rfl, ht3⟩, hw⟩
    obtain rfl := hw.symm
    go_upto_region 3 with fail
    obtain ⟨W2, hW2⟩ : ∃ W2, W2 = W.setCell ⟨w.heap.size, 3, none⟩ (.string t) := ⟨_, rfl⟩
    have hsb := HSb.out t W2 ht3 hW2
    rw [← hW2]
    have hb2 := hsb.bel
    have c1 := HC1.out W2 hb2
    have HCq := hide (HCt.out W2 hb2)
    have HB2 := hide hb2
    clear hW2 hsb c0 c3 f3 HSb HU HP hb2 HCt
    go_wp2_with fail
    refine (unhide HCq).mono ?_
    rintro e' w3 ⟨rfl, hb3⟩
    obtain ⟨W4, hW4⟩ : ∃ W4, W4 = w3.alloc (.cells #[.int .i64 (C0 : Int), .int .i64 (C1 : Int), .int .i64 (C2 : Int), .int .i64 (C3 : Int), .int .i64 (L1 : Int)] 45) := ⟨_, rfl⟩
    have hb3' : Below w.heap.size w w3 := HB2.out.trans (hb3.mono HB2.out.size)
    have hb4 : Below w.heap.size w W4 := by rw [hW4]; exact hb3'.alloc hb3'.size _
    have r4 : W4.heap[w3.heap.size]? = some (.cells #[.int .i64 (C0 : Int), .int .i64 (C1 : Int), .int .i64 (C2 : Int), .int .i64 (C3 : Int), .int .i64 (L1 : Int)] 45 (0, 0)) := by rw [hW4, _root_.Go.heap_alloc_new]
    have x4 : W4.cell? ⟨w3.heap.size, 4, none⟩ = some (.int .i64 (L1 : Int)) := cell_row r4 4
    have hl4 : w3.heap.size < W4.heap.size := (Array.getElem?_eq_some_iff.1 r4).1
    have c4 := HC1.out W4 hb4
    have HW4 := hide hW4; have HB4 := hide hb4
    have HKq := hide (HKn.out W4.drew hb4.drew)
    have HX4 : Hid (∀ w', Below W4.drew.heap.size W4.drew w' → w'.cell? ⟨w3.heap.size, 4, none⟩ = some (.int .i64 (L1 : Int)) ∧ w'.cell? ⟨B, 1, none⟩ = some (.pointer (some ⟨e.X, 0, none⟩))) := fun w' q => ⟨(World.cell?_of_block (q.block _ hl4)).trans x4, HC1.out w' (hb4.drew.trans (q.mono hb4.drew.size))⟩
    clear hb3 hb3' hW4 hb4 r4 hl4 HCq c1 HKn
    go_upto_region 7 with fail
    rw [← HW4.out]
    refine held_planN 8 [0, 2, 3, 4] [(some true, 1), (some true, 5), (some false, 6), (some false, 7), (some false, 8), (some false, 9)] 8 (fun w' => w'.cell? ⟨w3.heap.size, 4, none⟩ = some (.int .i64 (L1 : Int)) ∧ w'.cell? ⟨B, 1, none⟩ = some (.pointer (some ⟨e.X, 0, none⟩))) (by kernel_rfl) (by kernel_rfl) (fun d _ _ _ _ h => by cases d <;> exact h) ⟨x4, c4⟩ ?_
    iterate 4
      refine wpPu_take ?_ rfl rfl ?_ ?_
      rotate_left
      · intro w'
        go_simp
        rfl
      go_simp
    refine wpPu_nil ?_
    iterate 2
      refine wpPm_take ?_ rfl rfl ?_ ?_
      rotate_left
      · rintro w' ⟨d0, d1⟩
        go_simp
        rfl
      go_simp
    refine wpPm_step rfl rfl (fun K hK => ?_)
    go_simp
    refine (unhide HKq).mono ?_
    rintro e' w5 ⟨u, rfl, ho5, hb5⟩
    obtain ⟨ua, uc, rfl⟩ := owns_len ho5
    have HX5 := hide (HX4.out w5 hb5)
    have hb5' : Below w.heap.size w w5 := HB4.out.drew.trans (hb5.mono HB4.out.drew.size)
    have HB5 := hide hb5'
    have HLq := hide (HLd.out w5 hb5')
    clear ho5 hb5 hb5' HX4 HKq x4 c4
    refine hK _ _ (fun _ => HX5.out) ?_
    clear hK K
    refine wpPm_step rfl rfl (fun K hK => ?_)
    go_simp
    refine hK _ _ (fun _ => HX5.out) ?_
    clear hK K
    refine wpPm_step rfl rfl (fun K hK => ?_)
    go_simp
    refine hK _ _ (fun h => absurd h (by decide)) ?_
    clear hK K
    refine wpPm_step rfl rfl (fun K hK => ?_)
    go_simp
    refine hK _ _ (fun h => absurd h (by decide)) ?_
    clear hK K
    refine wpPm_nil ?_
    clear HX5
    go_wp2_with fail
    refine (unhide HLq).mono ?_
    rintro e' w6 ⟨rfl, hl6⟩
    by_cases r0 : R.1 = 0
    · obtain ⟨d1, ⟨v140, d140⟩, f140, hB6, hkn6⟩ := HAt.out w5 w6 hl6
      have HK6 := hide hkn6
      have HDq := hide (fun w7 u => HDo.out w5 w6 w7 u r0 HB5.out hl6)
      have hle := HLen.out r0
      have heq : ((l2.length : Int) == (L1 : Int) + (l0.length : Int)) = true := by
        rw [beq_iff_eq]; omega
      have hdc : decide (R.1 = 0) = true := by simpa using r0
      rw [hdc]
      clear hl6 hkn6 r0 hle hdc HLq HAt HDo HNo HLen
      go_wp2_with fail
      refine (unhide HK6).mono ?_
      rintro e' w7 ⟨u2, rfl, ho7, hb7⟩
      obtain ⟨ua2, uc2, rfl⟩ := owns_len ho7
      have HF := hide (HDq.out w7 _ ho7 hb7)
      have e140 := (World.cell?_of_block (a := ⟨B, 140, none⟩) (hb7.block B hB6)).trans d140
      have g140 := (World.frozen?_of_block (a := ⟨B, 140, none⟩) (hb7.block B hB6)).trans f140
      clear ho7 hb7 d140 f140 HK6 HDq d1
      go_wp2_with fail
      go_ret
      exact ⟨rfl, HF.out⟩
    · have HF := hide (HNo.out w5 w6 r0 HB5.out hl6)
      have hdc : decide (R.1 = 0) = false := by simpa using r0
      rw [hdc]
      clear hl6 r0 hdc HLq HAt HDo HNo HLen
      go_wp2_with fail
      go_ret
      exact ⟨rfl, HF.out⟩
end Go.Proofs.YtmmflekajbeamabGreatDoor

namespace Go.Proofs.YtmmflekajbeamabGreatDoor
open Go.RowKit Go.Maps Go.WideMaps

theorem keeps_any {K : List KwN} {G N B : Nat} {b : Bn} {oe : Option En} {m k : Nat} {w : World} (h : BnAt N B b oe m k w) (ki : KI K G b.d (oe.map (·.g))) (mu : MuAt K B b oe w) (hKl : K.length ≤ k) (hN : N ≤ w.heap.size) (h0 : 0 < N) (ht : Tab w) (hm : m ≤ 100000000000000) (hk : 1500 ≤ k ∧ k ≤ 99999800000) (kd a b' : Int) (s : ByteArray) (ok : SbOK kd a b' s) (hs : s.size ≤ 1000000000) :
    Calls Tryz.prog 9 #[.pointer (some ⟨B, 0, none⟩), .agg (spC kd a b' s)] w (KePost G N B b oe m k w) := by
  obtain ⟨j, hj, hj6⟩ := pickI_ex kd 6 (by decide)
  by_cases c : j = 1 ∨ j = 2
  · have hc : ∃ c : Bool, pickI kd 6 = if c = true then 2 else 1 := by
      rcases c with rfl | rfl
      · exact ⟨false, hj⟩
      · exact ⟨true, hj⟩
    obtain ⟨c, hc⟩ := hc
    cases oe with
    | none => exact keepsN h ki mu hKl hN kd a b' s ok hs c hc
    | some e => exact keepsL h ki mu hKl hN h0 ht hk.2 kd a b' s ok hs c hc
  · exact keepsO h ki mu hKl hN h0 ht hm hk kd a b' s ok hs j hj (by omega)
/-- What the script's steps keep to. -/
def KlI (N B : Nat) (w0 : World) (j : Nat) (w : World) : Prop :=
  ∃ K b oe, BnAt N B b oe (1 + 3 * j) (1500 + 8004 * j) w ∧ Below N w0 w ∧ KI K (1 + j) b.d (oe.map (·.g)) ∧ MuAt K B b oe w ∧ K.length ≤ 1500 + 8004 * j
set_option maxRecDepth 100000 in
theorem ke_len {x j : Nat} (h : x ≤ 1500 + 8004 * j + 8004) : x ≤ 1500 + 8004 * (j + 1) := by omega
theorem KlI.step {N B j : Nat} {w0 w : World} (h : KlI N B w0 j w) (h0 : 0 < N) (hN : N ≤ w.heap.size) (ht : Tab w) (hj : j ≤ 2000000) {kd a b' : Int} {s : ByteArray} (ok : SbOK kd a b' s) (hs : s.size ≤ 1000000000) :
    Calls Tryz.prog 9 #[.pointer (some ⟨B, 0, none⟩), .agg (spC kd a b' s)] w fun e' w' => e' = .returned (.bool true) ∧ KlI N B w0 (j + 1) w' := by
  obtain ⟨K, b, oe, h1, h2, h3, h4, h5⟩ := h
  refine (keeps_any h1 h3 h4 h5 hN h0 ht (by omega) ⟨by omega, by omega⟩ kd a b' s ok hs).mono ?_
  rintro e' w' ⟨rfl, K', b2, oe2, q1, q2, q3, q4, q5⟩
  have a1 := q1.more (m' := 1 + 3 * (j + 1)) (k' := 1500 + 8004 * (j + 1)) (by omega) (by omega)
  have a3 := q3.more (G' := 1 + (j + 1)) (by omega)
  have a5 : K'.length ≤ 1500 + 8004 * (j + 1) := ke_len q5
  exact ⟨rfl, K', b2, oe2, a1, h2.trans (q2.below hN h1.ge), a3, q4, a5⟩
theorem KlI.new {z : List Int} {w : World} {B : Nat} {w' : World} (h : BcFin z (op0 z) w B w') : KlI w.heap.size B w 0 w' := by
  obtain ⟨b, e, h1, h2, _, h4, h5, h6⟩ := h
  refine ⟨[], b, some e, h1, h2, ?_, ⟨⟨0, ?_⟩, fun g hg => ?_⟩, Nat.zero_le _⟩
  · rw [h4]
    show KI [] 1 (op0 z).2.2 (some e.g)
    rw [h5]
    exact KI.new z
  · rw [h6]
    exact World.ownsRow_nil _ _ _ _
  · rw [h6] at hg
    cases hg
/-- The crash at the end, and the start. -/
def KmFin (K : List KwN) (G N B : Nat) (w0 : World) (b : Bn) (m : Nat) (w : World) : Prop := BdAt N B b m w ∧ Below N w0 w ∧ KI K G b.d none ∧ MuAt K B b none w ∧ b.d.tr = 0
theorem KlI.moves {N B j : Nat} {w0 w : World} (h : KlI N B w0 j w) (hN : N ≤ w.heap.size) (hj : j ≤ 2000000) :
    Calls Tryz.prog 10 #[.pointer (some ⟨B, 0, none⟩), .int .i64 0, .string ⟨#[]⟩] w fun e' w' => e' = .returned (.bool true) ∧ ∃ K b, KmFin K (1 + j) N B w0 b (1 + 3 * j) w' ∧ K.length ≤ 1500 + 8004 * j := by
  obtain ⟨K, b, oe, h1, h2, h3, h4, h5⟩ := h
  refine (moves_any h1.1 hN 0 ⟨#[]⟩ (by omega)).mono ?_
  rintro e' w' ⟨rfl, X2, D2, vs2, q1, q2⟩
  have q2' : FrB B b oe { b with X := X2, D := D2, d := mvD (dCrash b.d 0 (lst ⟨#[]⟩)), vs := vs2 } none w w' := by
    cases oe with
    | none => exact q2
    | some x => exact q2.weak
  exact ⟨rfl, K, _, ⟨q1, h2.trans (q2'.below hN h1.ge), h3.move h1.1.ok 0 (by rw [lst_len]; decide), h4.keep q2' rfl, mvI_tr _ 2⟩, h5⟩
def KsEnd (K : List KwN) (G N B : Nat) (w0 : World) (m : Nat) (w : World) : Prop := ∃ b e, BnAt N B b (some e) m 1500 w ∧ Below N w0 w ∧ KI K G b.d (some e.g) ∧ MuAt K B b (some e) w ∧ ∀ s ∈ wdL K, ∃ q ∈ e.g.b 0, wdsT q.1 = s
theorem KmFin.start {K : List KwN} {G N B : Nat} {w0 : World} {b : Bn} {m : Nat} {w : World} (h : KmFin K G N B w0 b m w) (h0 : 0 < N) (hN : N ≤ w.heap.size) (ht : Tab w) (hm : m ≤ 1000000000000000) (hG : G < 4294967295) :
    Calls Tryz.prog 11 #[.pointer (some ⟨B, 0, none⟩)] w fun e' w' => e' = .returned (.bool true) ∧ KsEnd K (G + 1) N B w0 (m + 1) w' := by
  obtain ⟨h1, h2, h3, h4, h5⟩ := h
  refine (started_any h1 hN h0 ht hm).mono ?_
  rintro e' w' ⟨rfl, vs', oe, hb, hl, hc⟩
  obtain ⟨k1, _, k3⟩ := h3.start h1.ok h1.dv.len
  have r0 := k3 h5 hG
  obtain ⟨q1, q2⟩ := k1 r0
  rcases hc with ⟨_, X, E, m1, v1, rfl⟩ | ⟨r, _⟩
  · exact ⟨rfl, _, _, hb, h2.trans (hl.below hN h1.gn), q1, h4.keep hl rfl, q2⟩
  · exact absurd r0 r
theorem KsEnd.holds {K : List KwN} {G N B : Nat} {w0 : World} {m : Nat} {w : World} (h : KsEnd K G N B w0 m w) (h0 : 0 < N) (hN : N ≤ w.heap.size) (ht : Tab w) (hKl : K.length ≤ 1000000000000) :
    (∃ X, w.cell? ⟨B, 1, none⟩ = some (.pointer (some ⟨X, 0, none⟩))) ∧ Calls Tryz.prog 12 #[.pointer (some ⟨B, 0, none⟩)] w fun e' w' => e' = .returned (.bool true) ∧ Below N w0 w' := by
  obtain ⟨b, e, h1, h2, h3, h4, h5⟩ := h
  refine ⟨⟨_, (h1.2.2 e rfl).c1⟩, ?_⟩
  refine (holdsK h1 (oe := some e) h3 h4 hN h0 ht (by omega) hKl (fun e' he => by cases he; exact h5)).mono ?_
  rintro e' w' ⟨rfl, hb⟩
  exact ⟨rfl, h2.trans (hb.mono hN)⟩
set_option maxRecDepth 100000 in
set_option maxHeartbeats 8000000 in
theorem kept_any (z : List Int) (v : Value) (n : Nat) (w : World) (hz : z.length = 138) (hzb : ∀ x ∈ z, -9223372036854775808 ≤ x ∧ x ≤ 9223372036854775807) (h : SsAt v n w) (ht : Tab w) (hn : n ≤ 2000000) :
    Calls Tryz.prog 3 #[.agg (S z), v] w fun e' w' => e' = .returned (.bool true) ∧ Below w.heap.size w w' := by
  obtain ⟨ad, cc, rfl⟩ := h.form
  obtain ⟨W, hW⟩ : ∃ W, W = w.alloc (.cells (S z) 25) := ⟨_, rfl⟩
  have hb0 : Below w.heap.size w W := by rw [hW]; exact (Below.refl _ _).alloc (Nat.le_refl _) _
  have rW : RowI W w.heap.size 25 z := by unfold RowI; rw [hW, _root_.Go.heap_alloc_new]
  have HFi := hide (first_any W (ht.below ht.pos hb0))
  have HFt := hide (fun w' => fit_any z w' hz hzb)
  have HBe := hide (fun w' (hb : Below w.heap.size w w') => bench_any (fitZ z) w' (fit_run hz) (ht.below ht.pos hb))
  have HT := hide (fun w' (hb : Below w.heap.size w w') => ht.below ht.pos hb)
  have HP := hide ht.pos
  have szl := zlen z hz
  have HH := hide h; have HW := hide hW; have HB0 := hide hb0; have HRW := hide rW; have HN := hide hn
  have HsS := hide sizeSp
  clear h ht hzb hW hb0 rW
  go_enter Tryz.func3, Tryz.ntmps3
  go_upto_region 1 with fail
  rw [← HW.out]
  go_wp2_with fail
  refine (unhide HFi).mono ?_
  rintro e w1 ⟨rfl, hb1⟩
  have hWl := HRW.out.lt
  have r1 : RowI w1 w.heap.size 25 z := HRW.out.keep (hb1.block _ hWl)
  have g1 := range_row r1 0 138 (by omega)
  rw [List.drop_zero, List.take_of_length_le (by omega)] at g1
  have HB1 : Hid (Below w.heap.size w w1) := HB0.out.trans (hb1.mono (Nat.le_of_lt hWl))
  clear hb1 HFi r1 hWl
  go_wp2_with (refine wpList_load_midZ rfl 25 _ rfl w.heap.size 0 rfl z _ g1 Tryz.underlying25 rfl szl ?_)
  refine (unhide HFt _).mono ?_
  rintro e w2 ⟨rfl, hb2⟩
  have HB2 : Hid (Below w.heap.size w w2) := HB1.out.trans (hb2.mono HB1.out.size)
  have HC := hide (HBe.out w2 HB2.out)
  clear hb2 g1 HFt HBe
  go_wp2_with fail
  refine (unhide HC).mono ?_
  rintro e w3 ⟨B, rfl, hbc⟩
  have hz2 := HB2.out.size
  have HI0 : Hid (KlI w2.heap.size B w2 0 w3) := KlI.new hbc
  clear hbc HC
  go_upto_region 6 with fail
  go_loopw [7] (fun i wr => ∃ j : Nat, j ≤ n ∧ i = .int .i64 j ∧ Hid (KlI w2.heap.size B w2 j wr)) (fun i _ => n - (intOf i).toNat)
  case atStart => exact ⟨0, Nat.zero_le _, rfl, HI0.out⟩
  case round =>
    obtain ⟨j, hj, rfl, HI⟩ := hrel
    have hbr : Below w2.heap.size w2 wr := by obtain ⟨_, _, _, _, q, _⟩ := HI.out; exact q
    have hBw : Below w.heap.size w wr := HB2.out.trans (hbr.mono hz2)
    have hzr := hbr.size
    have h0 : 0 < w2.heap.size := Nat.lt_of_lt_of_le HP.out hz2
    by_cases hlt : j < n
    · have hlt' : (j : Int) < (n : Int) := by omega
      obtain ⟨G, o, c, hv, hG, cs, ⟨kd, a, b', s, rfl, ok, hs⟩, hrg⟩ := (HH.out.up hBw).at' j hlt
      cases hv
      have hj0 : ¬ (j : Int) < 0 := by omega
      have HSt := hide (HI.out.step h0 hzr (HT.out wr hBw) (by have := HN.out; omega) ok hs)
      have HRg := hide hrg
      have HwJ : Hid ((j : Int) + 1 = ((j + 1 : Nat) : Int)) := by unfold Hid; omega
      have HLn : Hid ((Tryz.prog.info? 33).map (·.size) = some (spC kd a b' s).toList.length) := HsS.out
      clear hrg ok hs hbr hBw HI HI0
      generalize spC kd a b' s = OC at *
      go_wp2_with (refine wpList_load_mid rfl 33 _ rfl G (o + j * 4) rfl OC.toList _ HRg.out Tryz.underlying33 rfl HLn.out ?_)
      refine (unhide HSt).mono ?_
      rintro e w4 ⟨rfl, h4⟩
      have HN4 := hide h4
      clear h4 HSt
      go_wp2_with fail
      exact ⟨⟨j + 1, hlt, congrArg (Value.int .i64) HwJ.out, HN4.out⟩, measM HwJ.out hlt⟩
    · have hlt' : ¬ (j : Int) < (n : Int) := by omega
      have HMv := hide (HI.out.moves hzr (by have := HN.out; omega))
      clear HI HI0 hbr hBw
      go_wp2_with fail
      refine (unhide HMv).mono ?_
      rintro e w4 ⟨rfl, K, b, hm4, hKl⟩
      have hb4 : Below w2.heap.size w2 w4 := hm4.2.1
      have HSt := hide (hm4.start h0 hb4.size (HT.out w4 (HB2.out.trans (hb4.mono hz2))) (by have := HN.out; omega) (by have := HN.out; omega))
      have HKl : Hid (K.length ≤ 1000000000000) := by have := HN.out; unfold Hid; omega
      clear hm4 hb4 HMv hKl
      go_wp2_with fail
      refine (unhide HSt).mono ?_
      rintro e w5 ⟨rfl, hs5⟩
      have hb5 : Below w2.heap.size w2 w5 := by obtain ⟨_, _, _, q, _⟩ := hs5; exact q
      obtain ⟨⟨X, c1⟩, hh⟩ := hs5.holds h0 hb5.size (HT.out w5 (HB2.out.trans (hb5.mono hz2))) HKl.out
      have HHo := hide hh
      clear hs5 hb5 hh HSt
      go_wp2_with fail
      refine (unhide HHo).mono ?_
      rintro e w6 ⟨rfl, hb6⟩
      have HF : Hid (Below w.heap.size w w6) := HB2.out.trans (hb6.mono hz2)
      clear hb6 HHo
      go_wp2_with fail
      go_ret
      exact ⟨rfl, HF.out⟩
end Go.Proofs.YtmmflekajbeamabGreatDoor
