/-
  Kept: what a bench keeps to, step by step: plain mathematics.
  Kept: where words stand in a list (find); a text's first bytes (upTo).
  Kept: what an engine knows is right, each block once, and all that must be known (holds).
  Kept: one step of the bench, and what must be known behind it.
-/
import Derived.Test.YtmmflekajbeamabGreatDoorK34
import Derived.Test.YtmmflekajbeamabGreatDoorK31
import Derived.Test.YtmmflekajbeamabGreatDoorK28
import Derived.Test.YtmmflekajbeamabGreatDoorK15
namespace Go.Proofs.YtmmflekajbeamabGreatDoor
open Go.RowKit Go.Maps Go.WideMaps

/-- The words of a list of what is known. -/
def wdL (K : List KwN) : List (List UInt8) := K.map fun k => wdsT k.1
structure KI (K : List KwN) (G : Nat) (d : DvN) (og : Option EgN) : Prop where
  jd : Jd (wdL K) G d
  mo : ∀ k ∈ K, k.2 = ownT k.1
  ow : ∀ g, og = some g → Ow g
  kf : ∀ g, og = some g → overE g d.wk = false → Kf (wdL K) G g d
theorem KI.more {K : List KwN} {G G' : Nat} {d : DvN} {og : Option EgN} (h : KI K G d og) (hg : G ≤ G') : KI K G' d og :=
  ⟨h.jd.more hg, h.mo, h.ow, fun g e o => (h.kf g e o).of hg rfl rfl rfl rfl rfl rfl (h.kf g e o).k.mu⟩
theorem KI.run {K : List KwN} {G : Nat} {d : DvN} {g : EgN} {k : Nat} (h : KI K G d (some g)) (hg : GOK g k) (n : Nat) : KI K G d (some (runE g n).1) := by
  have kp : Kp g (runE g n).1 := runL_kp n (n + 1) g 0
  obtain ⟨ow, b0⟩ := Ow.runL n (n + 1) g k 0 (h.ow g rfl) hg.run
  have b0' : (runE g n).1.b 0 = g.b 0 := b0
  refine ⟨h.jd, h.mo, fun g' e => ?_, fun g' e o => ?_⟩
  · cases e; exact ow
  · cases e
    have o' : overE g d.wk = false := by
      unfold overE at o ⊢
      rw [kp.fl, kp.wk] at o
      exact o
    have q := h.kf g rfl o'
    exact q.of (Nat.le_refl _) kp.ar kp.gn kp.sz b0' rfl rfl q.k.mu
theorem KI.dev {K : List KwN} {G : Nat} {d d' : DvN} {og : Option EgN} (h : KI K G d og) (hb : d'.b = d.b) (hn : d'.n = d.n) (hw : d'.wk = d.wk) : KI K G d' og := by
  refine ⟨fun t0 t1 a b => ?_, h.mo, h.ow, fun g e o => ?_⟩
  · rw [hb, hn] at a b
    exact h.jd t0 t1 a b
  · rw [hw] at o
    have q := h.kf g e o
    exact q.of (Nat.le_refl _) rfl rfl rfl rfl hb hn q.k.mu
theorem over_fail (g : EgN) (wk : Int) : overE (failE g) wk = true := rfl
/-- What a Persist or a Compact leaves. -/
theorem KI.laid {K : List KwN} {G : Nat} {b : Bn} {g : EgN} {k : Nat} (h : KI K G b.d (some g)) (hd : DvOK b.d) (hg : GOK g k) (c : Bool) :
    ((ldB b g c).1 = 0 → KI ((ldB b g c).2.1.b 0) (G + 1) (ldB b g c).2.2 (some (ldB b g c).2.1) ∧ ((ldB b g c).2.1.b 0).length = (g.b 0).length + (g.b 1).length) ∧
    ((ldB b g c).1 ≠ 0 → KI K (G + 1) (ldB b g c).2.2 (some (ldB b g c).2.1)) := by
  have hwk := (ldB_ok hd hg c).2.1
  by_cases o : overE g b.d.wk = true
  · have e : ldB b g c = (17, g, b.d) := by unfold ldB; rw [if_pos o]
    rw [e]
    exact ⟨fun q => (by cases q), fun _ => h.more (Nat.le_succ _)⟩
  have o' : overE g b.d.wk = false := by simpa using o
  have kf := h.kf g rfl o'
  have ow := h.ow g rfl
  have fin : LaFin (wdL K) G g b.d (ldB b g c) := by
    unfold ldB
    rw [if_neg o]
    cases c with
    | true =>
      rw [if_pos rfl]
      exact (kf.k.anew hg.pu hg.pay ow).la
    | false =>
      rw [if_neg (by decide)]
      exact kf.pers hg.pu hg.pay ow
  generalize ldB b g c = R at *
  rcases fin with ⟨r0, r1, r2, r3, r4⟩ | ⟨r0, r1⟩
  · refine ⟨fun _ => ⟨?_, by rw [r1, ow.tog_eq hg.pu, List.length_append]⟩, fun q => absurd r0 q⟩
    have K2 : Kf (wdL (R.2.1.b 0)) (G + 1) R.2.1 R.2.2 := r3.of (Nat.le_refl _) rfl rfl rfl rfl rfl rfl (fun s hs => by
      obtain ⟨q, hq, e⟩ := List.mem_map.1 hs
      exact ⟨q, hq, e⟩)
    exact ⟨K2.k.jd, r4.o0, fun g' e => by cases e; exact r4, fun g' e _ => by cases e; exact K2⟩
  · refine ⟨fun q => absurd q r0, fun _ => ?_⟩
    rcases r1 with r1 | ⟨r1, r2⟩
    · rw [r1]
      exact h.more (Nat.le_succ _)
    · refine ⟨r2, h.mo, fun g' e => ?_, fun g' e q => ?_⟩
      · cases e
        rw [r1]
        exact ow.of rfl
      · cases e
        rw [r1, over_fail] at q
        cases q
/-- What a start leaves. -/
theorem KI.start {K : List KwN} {G : Nat} {b : Bn} {og : Option EgN} (h : KI K G b.d og) (hd : DvOK b.d) (hl : ∀ i, i < 2 → (b.d.b i).length ≤ 1500) :
    ((opB b).1 = 0 → KI K (G + 1) (opB b).2.2 (some (opB b).2.1) ∧ (∀ s ∈ wdL K, ∃ k ∈ (opB b).2.1.b 0, wdsT k.1 = s)) ∧ ((opB b).1 ≠ 0 → KI K (G + 1) (opB b).2.2 none) ∧ (b.d.tr = 0 → G < 4294967295 → (opB b).1 = 0) := by
  have hj : Jd (wdL K) G (engD b.d) := h.jd
  have q := hj.open (d := engD b.d) hd hl (wrap64 (b.d.wk + 1)) b.z
  refine ⟨fun r0 => ?_, fun r0 => ?_, fun ht hG => open_ok (d := engD b.d) hj hd hl ht hG _ _⟩
  · rcases q with ⟨_, r1, r2, r3⟩ | ⟨r, _⟩
    · exact ⟨⟨r2.k.jd, h.mo, fun g' e => by cases e; exact r3, fun g' e _ => by cases e; exact r2⟩, r2.k.mu⟩
    · exact absurd r0 r
  · rcases q with ⟨r, _⟩ | ⟨_, r1, _⟩
    · exact absurd r r0
    · exact ⟨r1, h.mo, fun g' e => (by cases e), fun g' e => (by cases e)⟩
/-- What a crash leaves of an area. -/
theorem crB_oc {b : List UInt8} {n : Nat} (hn : n ≤ b.length) (keep : Int) {j : List UInt8} (hj : j.length ≤ 3) : Oc b n (crB b n keep j) := by
  unfold crB
  refine ⟨n + min keep.toNat (b.length - n), j.take (b.length - n - min keep.toNat (b.length - n)), by omega, by omega, ?_, fun e => ?_, rfl⟩
  · rw [List.length_take]; omega
  · have : b.length - n - min keep.toNat (b.length - n) = 0 := by omega
    rw [this, List.take_zero]
theorem crash_oc {d : DvN} (ok : DvOK d) (keep : Int) {j : List UInt8} (hj : j.length ≤ 3) : ∀ i, i < 2 → Oc (d.b i) (d.n i) ((dCrash d keep j).b i) := by
  have e0 : (dCrash d keep j).b 0 = crB (d.b 0) (d.n 0) keep j := by
    show upd (upd d.b 0 (crB (d.b 0) (d.n 0) keep j)) 1 (crB ((crN d keep j 1).b 1) ((crN d keep j 1).n 1) keep j) 0 = _
    rw [upd_ne _ _ _ _ (by decide), upd_at]
  have e1 : (dCrash d keep j).b 1 = crB (d.b 1) (d.n 1) keep j := by
    show upd (crN d keep j 1).b 1 (crB ((crN d keep j 1).b 1) ((crN d keep j 1).n 1) keep j) 1 = _
    rw [upd_at]
    have := crN_at d keep j 1 1 (Nat.le_refl _)
    rw [this.1, this.2]
  intro i hi
  have : i = 0 ∨ i = 1 := by omega
  rcases this with rfl | rfl
  · rw [e0]; exact crB_oc (ok 0 (by decide)) keep hj
  · rw [e1]; exact crB_oc (ok 1 (by decide)) keep hj
theorem mvI_n (d : DvN) : (mvD d).n 0 = ((mvD d).b 0).length ∧ (mvD d).n 1 = ((mvD d).b 1).length := by
  constructor
  · show upd (upd dv0.n 0 (dv0.b 0 ++ d.b 0).length) 1 ((mvI d 1).b 1 ++ d.b 1).length 0 = (upd (upd dv0.b 0 (dv0.b 0 ++ d.b 0)) 1 ((mvI d 1).b 1 ++ d.b 1) 0).length
    rw [upd_ne _ _ _ _ (by decide), upd_at, upd_ne _ _ _ _ (by decide), upd_at]
  · show upd (mvI d 1).n 1 ((mvI d 1).b 1 ++ d.b 1).length 1 = (upd (mvI d 1).b 1 ((mvI d 1).b 1 ++ d.b 1) 1).length
    rw [upd_at, upd_at]
/-- What a crash and a copy leave. -/
theorem KI.move {K : List KwN} {G : Nat} {d : DvN} {og : Option EgN} (h : KI K G d og) (ok : DvOK d) (keep : Int) {j : List UInt8} (hj : j.length ≤ 3) : KI K G (mvD (dCrash d keep j)) none := by
  refine ⟨fun t0 t1 a b => ?_, h.mo, fun g' e => (by cases e), fun g' e => (by cases e)⟩
  obtain ⟨m0, m1⟩ := mvD_b (dCrash d keep j)
  obtain ⟨n0, n1⟩ := mvI_n (dCrash d keep j)
  have e0 := a.full n0
  have e1 := b.full n1
  rw [e0, e1, m0, m1]
  exact h.jd _ _ (crash_oc ok keep hj 0 (by decide)) (crash_oc ok keep hj 1 (by decide))
/-- A new bench. -/
theorem KI.new (z : List Int) : KI [] 1 (op0 z).2.2 (some (op0 z).2.1) := by
  have q : Jd [] 0 (engD dv0) := fun t0 t1 a b => by
    have e0 : t0 = [] := a.full rfl
    have e1 : t1 = [] := b.full rfl
    rw [e0, e1, scan_nil]
    exact ⟨Nat.le_refl _, .inl ⟨rfl, rfl⟩⟩
  have r := q.open (d := engD dv0) (fun i _ => Nat.zero_le _) (fun i _ => Nat.zero_le _) 1 z
  rcases r with ⟨_, r1, r2, r3⟩ | ⟨r, _⟩
  · exact ⟨r2.k.jd, fun k hk => (by cases hk), fun g' e => by cases e; exact r3, fun g' e _ => by cases e; exact r2⟩
  · exact absurd (open_ok q (fun i _ => Nat.zero_le _) (fun i _ => Nat.zero_le _) rfl (by decide) 1 z) r
/-- What must be known is known, with the same plan. -/
theorem known_all {K B : List KwN} (hK : ∀ k ∈ K, k.2 = ownT k.1) (hB : ∀ k ∈ B, k.2 = ownT k.1) (h : ∀ s ∈ wdL K, ∃ k ∈ B, wdsT k.1 = s) : ∀ x ∈ knT K, x ∈ knT B := fun x hx => by
  obtain ⟨k, hk, rfl⟩ := List.mem_map.1 hx
  obtain ⟨q, hq, e⟩ := h (wdsT k.1) (List.mem_map.2 ⟨k, hk, rfl⟩)
  refine List.mem_map.2 ⟨q, hq, ?_⟩
  show (wdsT q.1, q.2) = (wdsT k.1, k.2)
  rw [hK k hk, hB q hq]
  unfold ownT
  rw [e]
end Go.Proofs.YtmmflekajbeamabGreatDoor

namespace Go.Proofs.YtmmflekajbeamabGreatDoor
open Go.RowKit Go.Maps Go.WideMaps

set_option maxRecDepth 100000 in
set_option maxHeartbeats 2000000 in
theorem find_any2 (B0 : Nat) (v0 : Value) (l : List BwN) (t : List UInt8) (w : World) (h : w.ownsRow B0 71 2 v0 l.length (knCs l)) (hl : l.length ≤ 1000000000000) :
    Calls Tryz.prog 31 #[v0, .string (bya t)] w fun e' w' => e' = .returned (.int .i64 (plI (plR l t))) ∧ w' = w := by
  obtain ⟨va, vc, hv⟩ := owns_len h
  subst hv
  have HO := hide h; have HL := hide hl
  obtain ⟨RR, hRR⟩ : ∃ RR, RR = plI (plR l t) := ⟨_, rfl⟩
  rw [← hRR]
  have HRR := hide hRR
  clear h hRR hl
  go_enter Tryz.func31, Tryz.ntmps31
  go_wp2_with fail
  go_loopw [5] (fun i wr => ∃ k : Nat, k ≤ l.length ∧ i = .int .i64 k ∧ wr = w ∧ Hid (∀ j : Nat, j < k → ∀ y : BwN, l[j]? = some y → y.1 ≠ t)) (fun i _ => l.length - (intOf i).toNat)
  case atStart => exact ⟨0, Nat.zero_le _, rfl, rfl, fun j hj => absurd hj (Nat.not_lt_zero _)⟩
  case round =>
    obtain ⟨k, hk, rfl, rfl, HI⟩ := hrel
    have hkw : wrap64 ((k : Int) + 1) = (k : Int) + 1 := by have := HL.out; unfold wrap64; omega
    by_cases hlt : k < l.length
    · have hlt' : (k : Int) < (l.length : Int) := by omega
      obtain ⟨g, c, hv, _, hgl⟩ := HO.out.form (by omega)
      simp only [Value.slice.injEq] at hv
      obtain ⟨rfl, _, rfl⟩ := hv
      obtain ⟨d0, _⟩ := kn_cells HO.out k l[k] (List.getElem?_eq_getElem hlt)
      have HX := hide (List.getElem?_eq_getElem hlt)
      generalize l[k] = x at *
      by_cases hx : x.1 = t
      · have HP : Hid (RR = (k : Int)) := by unfold Hid; rw [HRR.out, plR_at HX.out HI.out hx]; rfl
        rw [hx] at d0
        clear hx
        go_wp2_with fail
        go_ret
        rw [HP.out]
        exact ⟨rfl, rfl⟩
      · have hne := bya_ne2 hx
        have hne' : ((bya x.1).toList == (bya t).toList) = false := str_ne hne
        have HN : Hid (∀ j : Nat, j < k + 1 → ∀ y : BwN, l[j]? = some y → y.1 ≠ t) := fun j hj y hy => by
          by_cases e : j = k
          · subst e
            have : x = y := by have := HX.out; rw [hy] at this; exact (Option.some.inj this).symm
            rw [← this]; exact hx
          · exact HI.out j (by omega) y hy
        clear hx hne
        go_wp2_with fail
        rw [hkw]
        exact ⟨⟨k + 1, hlt, k_succ k, trivial, HN.out⟩, meas1 hlt⟩
    · have hlt' : ¬ (k : Int) < (l.length : Int) := by omega
      have HP : Hid (RR = -1) := by
        unfold Hid
        rw [HRR.out, plR_no (fun j hj => HI.out j (by omega))]
        rfl
      clear hkw
      go_wp2_with fail
      go_ret
      rw [HP.out]
      exact ⟨rfl, rfl⟩
set_option maxRecDepth 100000 in
set_option maxHeartbeats 2000000 in
theorem upTo_any (s : ByteArray) (w : World) (hs : s.size ≤ 1000000000000) :
    Calls Tryz.prog 23 #[.string s, .int .i64 3] w fun e' w' => (∃ t : ByteArray, e' = .returned (.string t) ∧ t.size ≤ 3) ∧ w' = w := by
  by_cases h : 3 < s.size
  · have h' : (3 : Int) < (s.size : Int) := by omega
    have hz : (s.extract 0 3).size = 3 := by rw [ByteArray.size_extract]; omega
    have HP : Hid (∃ t : ByteArray, Ending.returned (.string (s.extract 0 3)) = .returned (.string t) ∧ t.size ≤ 3) := ⟨_, rfl, by omega⟩
    clear hz
    go_enter Tryz.func23, Tryz.ntmps23
    go_wp2_with fail
    go_ret
    exact ⟨HP.out, rfl⟩
  · have h' : ¬ (3 : Int) < (s.size : Int) := by omega
    have HP : Hid (∃ t : ByteArray, Ending.returned (.string s) = .returned (.string t) ∧ t.size ≤ 3) := ⟨_, rfl, by omega⟩
    go_enter Tryz.func23, Tryz.ntmps23
    go_wp2_with fail
    go_ret
    exact ⟨HP.out, rfl⟩
end Go.Proofs.YtmmflekajbeamabGreatDoor

namespace Go.Proofs.YtmmflekajbeamabGreatDoor
open Go.RowKit Go.Maps Go.WideMaps

/-- The list of what must be known, in memory. -/
structure MuAt (K : List KwN) (B : Nat) (b : Bn) (oe : Option En) (w : World) : Prop where
  ow : ∃ B0, w.ownsRow B0 71 2 b.mv (knT K).length (knCs (knT K))
  ap : ∀ g, b.mv.ownBlock = some g → ¬ ownB B b oe g ∧ g < w.heap.size
theorem MuAt.keep {K : List KwN} {B : Nat} {b b' : Bn} {oe oe' : Option En} {w w' : World} (h : MuAt K B b oe w) (f : FrB B b oe b' oe' w w') (e : b'.mv = b.mv) : MuAt K B b' oe' w' := by
  obtain ⟨B0, q⟩ := h.ow
  refine ⟨⟨B0, ?_⟩, fun g hg => ?_⟩
  · rw [e]
    exact ownsRow_keep q (fun g hg => f.chg.other g (h.ap g hg).2 (h.ap g hg).1)
  · rw [e] at hg
    obtain ⟨a1, a2⟩ := h.ap g hg
    refine ⟨fun c => ?_, Nat.lt_of_lt_of_le a2 f.chg.size⟩
    rcases f.new g c with r | r
    · exact a1 r
    · omega
theorem MuAt.up {K : List KwN} {B : Nat} {b : Bn} {oe : Option En} {w w' : World} (h : MuAt K B b oe w) (hb : Below w.heap.size w w') : MuAt K B b oe w' := h.keep (FrB.of_below hb) rfl
set_option maxRecDepth 100000 in
set_option maxHeartbeats 2000000 in
theorem holds_none {N B : Nat} {b : Bn} {m k : Nat} {w : World} (h : BnAt N B b none m k w) :
    Calls Tryz.prog 12 #[.pointer (some ⟨B, 0, none⟩)] w fun e' w' => e' = .returned (.bool true) ∧ Below w.heap.size w w' := by
  have c1 := h.2.1 rfl
  have HB := hide (Below.refl w.heap.size w)
  clear h
  go_enter Tryz.func12, Tryz.ntmps12
  go_wp2_with fail
  go_ret
  exact ⟨rfl, HB.out⟩
/-- A book's words stand each in one place. -/
theorem plR_self {l : List KwN} (h : BkOK l) {j : Nat} {x : BwN} (hx : (knT l)[j]? = some x) : plR (knT l) x.1 = some j := by
  refine plR_at hx (fun i hi y hy e => ?_) rfl
  unfold knT at hx hy
  rw [List.getElem?_map] at hx hy
  cases hj : l[j]? with
  | none => rw [hj] at hx; cases hx
  | some kx =>
    cases hi' : l[i]? with
    | none => rw [hi'] at hy; cases hy
    | some ky =>
      rw [hj] at hx
      rw [hi'] at hy
      cases hx; cases hy
      have e1 := wdsT_inj (h.ok _ (List.mem_of_getElem? hi')) (h.ok _ (List.mem_of_getElem? hj)) e
      have h1 : (bkW l)[i]? = some ky.1 := by show (l.map _)[i]? = _; rw [List.getElem?_map, hi']; rfl
      have h2 : (bkW l)[j]? = some kx.1 := by show (l.map _)[j]? = _; rw [List.getElem?_map, hj]; rfl
      have l1 := (List.getElem?_eq_some_iff.1 h1).1
      have := (List.getElem?_inj l1 h.one).1 (h1.trans (by rw [e1, h2]))
      omega
/-- What must be known stands somewhere, with its plan. -/
theorem plR_must {l : List KwN} (h : BkOK l) {x : BwN} (hx : x ∈ knT l) : ∃ j, j < (knT l).length ∧ plR (knT l) x.1 = some j ∧ (knT l)[j]? = some x := by
  obtain ⟨j, hj⟩ := List.getElem?_of_mem hx
  exact ⟨j, (List.getElem?_eq_some_iff.1 hj).1, plR_self h hj, hj⟩
set_option maxRecDepth 100000 in
set_option maxHeartbeats 8000000 in
theorem holds_some {N B : Nat} {b : Bn} {e : En} {m k : Nat} {w : World} {K : List KwN} (h : BnAt N B b (some e) m k w) (h0 : 0 < N) (hN : N ≤ w.heap.size) (ht : Tab w) (hk : k ≤ 99999900000) (mu : MuAt K B b (some e) w) (hKl : K.length ≤ 1000000000000) (ow : ∀ x ∈ e.g.b 0, x.2 = ownT x.1) (al : ∀ x ∈ knT K, x ∈ knT (e.g.b 0)) :
    Calls Tryz.prog 12 #[.pointer (some ⟨B, 0, none⟩)] w fun e' w' => e' = .returned (.bool true) ∧ Below w.heap.size w w' := by
  have hE := h.2.2 e rfl
  have c1 := hE.c1
  have bk := hE.ok.pu.bk 0 (by decide)
  have hll : (e.g.b 0).length ≤ 99999900000 := Nat.le_trans (by have := hE.ok.sm; omega) hk
  have HKn := hide (cKnown_of e.X e.E w hE.x _ (fun e' w' q => by obtain ⟨u, q, _⟩ := q; exact ⟨u, q⟩) (eKnown_any e.E b.D e.g e.m e.v w hE.eg (by omega)))
  have HBk := hide bk; have HPay := hide (hE.ok.pay 0 (by decide))
  obtain ⟨B0, hm0⟩ := mu.ow
  have c140 := h.1.mu
  obtain ⟨va, vc, hv⟩ := owns_len hm0
  rw [hv] at c140 hm0
  have HM0 := hide hm0
  have hBl := h.1.lt
  have HT : Hid (∀ w', Below w.heap.size w w' → Tab w') := fun w' hb => ht.below h0 (hb.mono hN)
  have HOw := hide ow; have HAl := hide al
  have hlen : (knT (e.g.b 0)).length = (e.g.b 0).length := knT_len _
  have hLl : (knT (e.g.b 0)).length ≤ 99999900000 := by omega
  have hMl : (knT K).length ≤ 1000000000000 := by rw [knT_len]; exact hKl
  have HLl := hide hLl; have HMl := hide hMl
  clear h hE bk hll mu ht ow al hv hKl hk hlen hLl hMl
  generalize hl : knT (e.g.b 0) = l at *
  have HL := hide hl
  clear hl
  generalize knT K = ms at *
  go_enter Tryz.func12, Tryz.ntmps12
  go_wp2_with fail
  refine (unhide HKn).mono ?_
  rintro e' w1 ⟨u, rfl, ho1, hb1⟩
  obtain ⟨ua, uc, rfl⟩ := owns_len ho1
  have hz1 := hb1.size
  have HB1 := hide hb1
  have HCl : Hid (∀ wr, Below w1.heap.size w1 wr → wr.ownsRow w.heap.size 71 2 (.slice ua l.length uc) l.length (knCs l)) := fun wr hb => own_grow ho1 hb
  have HMs : Hid (∀ wr, Below w1.heap.size w1 wr → wr.ownsRow B0 71 2 (.slice va ms.length vc) ms.length (knCs ms)) := fun wr hb => own_grow HM0.out (hb1.trans (hb.mono hz1))
  have HC1 : Hid (∀ wr, Below w1.heap.size w1 wr → wr.cell? ⟨B, 140, none⟩ = some (.slice va ms.length vc)) := fun wr hb => (World.cell?_of_block ((hb1.trans (hb.mono hz1)).block B hBl)).trans c140
  have HAc : Hid (∀ (x : BwN) wr, x ∈ l → Below w1.heap.size w1 wr → Calls Tryz.prog 30 #[.string (bya x.1), .string (bya x.2)] wr fun e' w' => e' = .returned (.int .i64 0) ∧ Below wr.heap.size wr w') := fun x wr hx hb => by
    rw [← HL.out] at hx
    obtain ⟨q, hq, rfl⟩ := List.mem_map.1 hx
    have hblk := (blkB_iff _).1 (HBk.out.blk q hq)
    have hpay := HPay.out q hq
    unfold payL at hpay
    refine (cribAccept_any (bya (wdsT q.1)) (bya q.2) wr (HT.out wr (hb1.trans (hb.mono hz1))) (by rw [bya_size]; unfold maxLen; omega) (by rw [bya_size]; unfold maxLen; omega)).mono ?_
    rintro e' w' ⟨hb', n, rfl, hn⟩
    have : n = 0 := hn.one (by rw [HOw.out q hq]; exact own_acc hblk)
    rw [this]
    exact ⟨rfl, hb'⟩
  have HFd : Hid (∀ t wr, Below w1.heap.size w1 wr → Calls Tryz.prog 31 #[.slice ua l.length uc, .string (bya t)] wr fun e' w' => e' = .returned (.int .i64 (plI (plR l t))) ∧ w' = wr) := fun t wr hb => find_any2 w.heap.size _ l t wr (HCl.out wr hb) (by have := HLl.out; omega)
  clear HKn ho1 hb1 hz1 c1 c140
  go_wp2_with fail
  go_loopw [4] (fun i wr => ∃ j : Nat, j ≤ l.length ∧ i = .int .i64 j ∧ Hid (Below w1.heap.size w1 wr)) (fun i _ => l.length - (intOf i).toNat)
  case atStart => exact ⟨0, Nat.zero_le _, rfl, Below.refl _ _⟩
  case round =>
    obtain ⟨j, hj, rfl, HI⟩ := hrel
    have hjw : wrap64 ((j : Int) + 1) = (j : Int) + 1 := by have := HLl.out; unfold wrap64; omega
    by_cases hlt : j < l.length
    · have hlt' : (j : Int) < (l.length : Int) := by omega
      have hor := HCl.out wr HI.out
      obtain ⟨g, c, hv, _, hgl⟩ := hor.form (by omega)
      simp only [Value.slice.injEq] at hv
      obtain ⟨rfl, _, rfl⟩ := hv
      obtain ⟨d0, d1⟩ := kn_cells hor j l[j] (List.getElem?_eq_getElem hlt)
      have HX := hide (List.getElem?_eq_getElem hlt)
      generalize l[j] = x at *
      have hx : x ∈ l := List.mem_of_getElem? HX.out
      have hpl : plR l x.1 = some j := by
        have q := HX.out
        rw [← HL.out] at q ⊢
        exact plR_self HBk.out q
      have HFx := hide (fun wr (hb : Below w1.heap.size w1 wr) => HFd.out x.1 wr hb)
      rw [hpl] at HFx
      have HAx := hide (fun wr (hb : Below w1.heap.size w1 wr) => HAc.out x wr hx hb)
      have HD : Hid (∀ w', Below wr.heap.size wr w' → w'.cell? ⟨g, j * 2, none⟩ = some (.string (bya x.1)) ∧ w'.cell? ⟨g, j * 2 + 1, none⟩ = some (.string (bya x.2))) := fun w' hb => ⟨(World.cell?_of_block (hb.block g hgl)).trans d0, (World.cell?_of_block (hb.block g hgl)).trans d1⟩
      have HWs := hide HI.out.size
      clear hx hpl hor hgl
      go_upto_region 7 with fail
      refine held_pick2 10 [0, 1, 2, 3, 4, 5, 6, 7, 8, 9] [10, 11] 10 (fun w' => w'.cell? ⟨g, j * 2, none⟩ = some (.string (bya x.1)) ∧ w'.cell? ⟨g, j * 2 + 1, none⟩ = some (.string (bya x.2))) (by kernel_rfl) (by kernel_rfl) (fun d _ _ _ _ h => by cases d <;> exact h) ⟨d0, d1⟩ ?_
      iterate 10
        refine wpTakeI_step ?_ rfl rfl ?_ ?_
        rotate_left
        · rintro w' ⟨q0, q1⟩
          go_simp
          rfl
        go_simp
      refine wpTakeI_nil ?_
      refine wpTailI_step rfl rfl (fun K hK => ?_)
      go_simp
      refine (unhide HAx _ (HI.out.trans ((Below.refl _ wr).drew.mono HWs.out))).mono ?_
      rintro e' w2 ⟨rfl, hb2⟩
      have hb2' : Below w1.heap.size w1 w2 := (HI.out.trans ((Below.refl _ wr).drew.mono HWs.out)).trans (hb2.mono HWs.out)
      obtain ⟨e0, e1⟩ := HD.out w2 ((Below.refl _ wr).drew.trans hb2)
      have HB2 := hide hb2'
      clear hb2 hb2' d0 d1
      refine hK _ _ (fun h => absurd h (by decide)) ?_
      clear hK K
      refine wpTailI_step rfl rfl (fun K hK => ?_)
      go_simp
      refine hK _ _ (fun h => absurd h (by decide)) ?_
      clear hK K
      refine wpTailI_nil ?_
      go_wp2_with fail
      refine (unhide HFx _ HB2.out).mono ?_
      rintro e' w' ⟨rfl, hw⟩
      obtain rfl := hw.symm
      have hpi : plI (some j) = (j : Int) := rfl
      rw [hpi]
      have hjn : ((j : Int) == (j : Int)) = true := by simp
      clear e0 e1 hpi
      go_wp2_with fail
      rw [hjw]
      exact ⟨⟨j + 1, hlt, k_succ j, HB2.out⟩, meas1 hlt⟩
    · have hlt' : ¬ (j : Int) < (l.length : Int) := by omega
      clear hjw
      go_wp2_with fail
      go_loopw [7] (fun i ws => ∃ j : Nat, j ≤ ms.length ∧ i = .int .i64 j ∧ Hid (Below w1.heap.size w1 ws)) (fun i _ => ms.length - (intOf i).toNat)
      case atStart => exact ⟨0, Nat.zero_le _, rfl, HI.out⟩
      case round =>
        clear HI
        obtain ⟨q, hq, rfl, HI⟩ := hrel
        have hqw : wrap64 ((q : Int) + 1) = (q : Int) + 1 := by have := HMl.out; unfold wrap64; omega
        have d140 := HC1.out _ HI.out
        by_cases hqt : q < ms.length
        · have hqt' : (q : Int) < (ms.length : Int) := by omega
          have hom := HMs.out _ HI.out
          obtain ⟨g, c, hv, _, hgl⟩ := hom.form (by omega)
          simp only [Value.slice.injEq] at hv
          obtain ⟨rfl, _, rfl⟩ := hv
          obtain ⟨d0, d1⟩ := kn_cells hom q ms[q] (List.getElem?_eq_getElem hqt)
          have hx : ms[q] ∈ ms := List.getElem_mem hqt
          generalize ms[q] = x at *
          have hxl := HAl.out x hx
          have hpm : ∃ p, p < l.length ∧ plR l x.1 = some p ∧ l[p]? = some x := by
            rw [← HL.out] at hxl ⊢
            exact plR_must HBk.out hxl
          obtain ⟨p, hpl, hpr, hpx⟩ := hpm
          have hor := HCl.out _ HI.out
          obtain ⟨g', c', hv', _, hgl'⟩ := hor.form (by omega)
          simp only [Value.slice.injEq] at hv'
          obtain ⟨rfl, _, rfl⟩ := hv'
          obtain ⟨_, d3⟩ := kn_cells hor p x hpx
          have HFx := hide (HFd.out x.1 _ HI.out)
          rw [hpr] at HFx
          have hp0 : ¬ (p : Int) < 0 := by omega
          have hpl' : (p : Int) < (l.length : Int) := by omega
          clear hx hxl hpr hpx hor hom hgl hgl'
          go_wp2_with fail
          refine (unhide HFx).mono ?_
          rintro e' w' ⟨rfl, hw⟩
          obtain rfl := hw.symm
          have hpi : plI (some p) = (p : Int) := rfl
          rw [hpi]
          clear hpi HFx
          go_upto_region 15 with fail
          go_quiet (fail)
          go_wp2_with fail
          rw [hqw]
          exact ⟨⟨q + 1, hqt, k_succ q, below_drewN HI.out nq⟩, meas1 hqt⟩
        · have hqt' : ¬ (q : Int) < (ms.length : Int) := by omega
          have HFin := hide (HB1.out.trans (HI.out.mono HB1.out.size))
          clear hqw
          go_wp2_with fail
          go_ret
          exact ⟨rfl, HFin.out⟩
end Go.Proofs.YtmmflekajbeamabGreatDoor

namespace Go.Proofs.YtmmflekajbeamabGreatDoor
open Go.RowKit Go.Maps Go.WideMaps

/-- What a step leaves. -/
def KsFin (K : List KwN) (G N B : Nat) (b : Bn) (oe : Option En) (m k : Nat) (st : Prop) (w w' : World) : Prop :=
  ∃ b' oe', BnAt N B b' oe' (m + 3) (k + 8004) w' ∧ FrB B b oe b' oe' w w' ∧ KI K (G + 1) b'.d (oe'.map (·.g)) ∧ b'.mv = b.mv ∧ (st → ∀ e, oe' = some e → ∀ s ∈ wdL K, ∃ q ∈ e.g.b 0, wdsT q.1 = s)
def KsPost (K : List KwN) (G N B : Nat) (b : Bn) (oe : Option En) (m k : Nat) (st : Prop) (w : World) (e' : Ending) (w' : World) : Prop := e' = .returned (.bool true) ∧ KsFin K G N B b oe m k st w w'
theorem KsPost.from {K : List KwN} {G N B : Nat} {b : Bn} {oe : Option En} {m k : Nat} {st : Prop} {w w1 w2 : World} {e : Ending} (hb : Below w.heap.size w w1) (h : KsPost K G N B b oe m k st w1 e w2) : KsPost K G N B b oe m k st w e w2 := by
  obtain ⟨rfl, b', oe', h1, h2, h3⟩ := h
  exact ⟨rfl, b', oe', h1, (FrB.of_below hb).trans h2, h3⟩
theorem runsK {K : List KwN} {G N B : Nat} {b : Bn} {oe : Option En} {m k : Nat} {w : World} (h : BnAt N B b oe m k w) (ki : KI K G b.d (oe.map (·.g))) (hN : N ≤ w.heap.size) (h0 : 0 < N) (ht : Tab w) (hk : k ≤ 99999900000) (n : Nat) (hn : n ≤ 2000) :
    Calls Tryz.prog 13 #[.pointer (some ⟨B, 0, none⟩), .int .i64 (n : Int)] w (KsPost K G N B b oe m k False w) := by
  cases oe with
  | none =>
    refine (runs_nil h n).mono ?_
    rintro e' w' ⟨rfl, rfl⟩
    exact ⟨rfl, b, none, h.more (by omega) (by omega), FrB.refl _ _ _ _, ki.more (Nat.le_succ _), rfl, fun q => q.elim⟩
  | some e =>
    by_cases ho : overE e.g b.d.wk = true
    · refine (runs_over h ht hk n hn ho).mono ?_
      rintro e' w' ⟨rfl, hb⟩
      exact ⟨rfl, b, some e, (h.up hN hb).more (by omega) (by omega), FrB.of_below hb, ki.more (Nat.le_succ _), rfl, fun q => q.elim⟩
    · refine (runs_ok h hN h0 ht hk n hn (by simpa using ho)).mono ?_
      rintro e' w' ⟨rfl, m1, v1, hb, hl⟩
      exact ⟨rfl, _, _, hb.more (by omega) (Nat.le_refl _), hl, (ki.run (h.2.2 e rfl).ok n).more (Nat.le_succ _), rfl, fun q => q.elim⟩
theorem startedK {K : List KwN} {G N B : Nat} {b : Bn} {og : Option EgN} {m k : Nat} {w : World} (h : BdAt N B b m w) (ki : KI K G b.d og) (hN : N ≤ w.heap.size) (h0 : 0 < N) (ht : Tab w) (hm : m ≤ 1000000000000000) (hk : 1500 ≤ k) :
    Calls Tryz.prog 11 #[.pointer (some ⟨B, 0, none⟩)] w (KsPost K G N B b none m k True w) := by
  refine (started_any h hN h0 ht hm).mono ?_
  rintro e' w' ⟨rfl, vs', oe, hb, hl, hc⟩
  obtain ⟨k1, k2, _⟩ := ki.start h.ok h.dv.len
  rcases hc with ⟨r0, X, E, m1, v1, rfl⟩ | ⟨r0, rfl⟩
  · obtain ⟨q1, q2⟩ := k1 r0
    exact ⟨rfl, _, _, hb.more (by omega) (by omega), hl, q1, rfl, fun _ e he => by cases he; exact q2⟩
  · exact ⟨rfl, _, _, hb.more (by omega) (by omega), hl, k2 r0, rfl, fun _ e he => by cases he⟩
theorem KsPost.weak {K : List KwN} {G N B : Nat} {b : Bn} {oe : Option En} {m k : Nat} {st : Prop} {w w' : World} {e : Ending} (h : KsPost K G N B b none m k st w e w') : KsPost K G N B b oe m k st w e w' := by
  cases oe with
  | none => exact h
  | some x =>
    obtain ⟨rfl, b', oe', h1, h2, h3⟩ := h
    exact ⟨rfl, b', oe', h1, h2.weak, h3⟩
set_option maxRecDepth 100000 in
set_option maxHeartbeats 4000000 in
theorem step0K {K : List KwN} {G N B : Nat} {b : Bn} {oe : Option En} {m k : Nat} {w : World} (h : BnAt N B b oe m k w) (ki : KI K G b.d (oe.map (·.g))) (hN : N ≤ w.heap.size) (h0 : 0 < N) (ht : Tab w) (hk : k ≤ 99999900000) (kd a b' kinds : Int) (s : ByteArray) (ok : SbOK kd a b' s) (hki : 0 < kinds ∧ kinds ≤ 9) (hkd : pickI kd kinds = 0) :
    Calls Tryz.prog 25 #[.pointer (some ⟨B, 0, none⟩), .agg (spC kd a b' s), .int .i64 kinds] w (KsPost K G N B b oe m k False w) := by
  obtain ⟨W, hW⟩ : ∃ W, W = w.alloc (.cells (spC kd a b' s) 33) := ⟨_, rfl⟩
  have hX := sbx_new h hN kd a b' s W hW
  have HW := hide hW
  have c0 := hX.c0
  have c1 := hX.c1
  have HP := hide (fun w' => pick_any kd kinds w' ok.kd.1 ok.kd.2 hki.1 (by omega))
  rw [hkd] at HP
  have HPa := hide (fun w' => pick_any a 300 w' ok.a.1 ok.a.2 (by decide) (by decide))
  obtain ⟨n, hn, hn3⟩ := pickI_ex a 300 (by decide)
  rw [hn] at HPa
  have hNW : N ≤ W.heap.size := Nat.le_trans hN hX.bel.size
  have HR := hide (runsK hX.bn ki hNW h0 (ht.below h0 (hX.bel.mono hN)) hk n (by omega))
  have HFr : Hid (∀ e w', KsPost K G N B b oe m k False W e w' → KsPost K G N B b oe m k False w e w') := fun e w' q => q.from hX.bel
  clear h ki hW hX ok hki hkd ht hk hn hn3
  generalize spC kd a b' s = SC at *
  go_enter Tryz.func25, Tryz.ntmps25
  go_upto_region 1 with fail
  rw [← HW.out]
  go_wp2_with fail
  refine (unhide HP _).mono ?_
  rintro e w' ⟨rfl, hw⟩
  obtain rfl := hw.symm
  go_wp2_with fail
  refine (unhide HPa _).mono ?_
  rintro e w' ⟨rfl, hw⟩
  obtain rfl := hw.symm
  go_wp2_with fail
  refine (unhide HR).mono ?_
  intro e w1 hp
  have he := hp.1
  subst he
  have HF := hide (HFr.out _ _ hp)
  clear hp HR
  go_wp2_with fail
  go_ret
  exact HF.out
set_option maxRecDepth 100000 in
set_option maxHeartbeats 4000000 in
theorem step3K {K : List KwN} {G N B : Nat} {b : Bn} {oe : Option En} {m k : Nat} {w : World} (h : BnAt N B b oe m k w) (ki : KI K G b.d (oe.map (·.g))) (hN : N ≤ w.heap.size) (h0 : 0 < N) (ht : Tab w) (hm : m ≤ 100000000000000) (hk : 1500 ≤ k) (kd a b' kinds : Int) (s : ByteArray) (ok : SbOK kd a b' s) (hki : 0 < kinds ∧ kinds ≤ 9) (hkd : pickI kd kinds = 3) (hs3 : s.size ≤ 3) :
    Calls Tryz.prog 25 #[.pointer (some ⟨B, 0, none⟩), .agg (spC kd a b' s), .int .i64 kinds] w (KsPost K G N B b oe m k True w) := by
  obtain ⟨W, hW⟩ : ∃ W, W = w.alloc (.cells (spC kd a b' s) 33) := ⟨_, rfl⟩
  have hX := sbx_new h hN kd a b' s W hW
  have HW := hide hW
  have c0 := hX.c0
  have c1 := hX.c1
  have c3 := hX.c3
  have HP := hide (fun w' => pick_any kd kinds w' ok.kd.1 ok.kd.2 hki.1 (by omega))
  rw [hkd] at HP
  have hNW : N ≤ W.heap.size := Nat.le_trans hN hX.bel.size
  have HM := hide (moves_any hX.bn.1 hNW a s (by omega))
  have kim : KI K G (mvD (dCrash b.d a (lst s))) none := ki.move hX.bn.1.ok a (by rw [lst_len]; exact hs3)
  have HS : Hid (∀ X2 D2 vs2 w', BdAt N B { b with X := X2, D := D2, d := mvD (dCrash b.d a (lst s)), vs := vs2 } m w' → Below N W w' → Calls Tryz.prog 11 #[.pointer (some ⟨B, 0, none⟩)] w' (KsPost K G N B { b with X := X2, D := D2, d := mvD (dCrash b.d a (lst s)), vs := vs2 } none m k True w')) := fun X2 D2 vs2 w' q hb => startedK q kim (Nat.le_trans hNW hb.size) h0 (ht.below h0 ((hX.bel.mono hN).trans hb)) (by omega) hk
  have HFr : Hid (∀ X2 D2 vs2 w1 w2 e, FrB B b none { b with X := X2, D := D2, d := mvD (dCrash b.d a (lst s)), vs := vs2 } none W w1 → KsPost K G N B { b with X := X2, D := D2, d := mvD (dCrash b.d a (lst s)), vs := vs2 } none m k True w1 e w2 → KsPost K G N B b oe m k True w e w2) := fun X2 D2 vs2 w1 w2 e f q => by
    obtain ⟨rfl, b', oe', h1, h2, h3, h4, h5⟩ := q
    have r : KsPost K G N B b none m k True w (.returned (.bool true)) w2 := ⟨rfl, b', oe', h1, ((FrB.of_below hX.bel).trans f).trans h2, h3, h4, h5⟩
    exact r.weak
  have HBl := hide (hX.bel.mono hN); have HNW := hide hNW; have HGe := hide hX.bn.1.gn
  clear h hW hX ok hki hkd ht hk hs3 kim ki
  generalize spC kd a b' s = SC at *
  go_enter Tryz.func25, Tryz.ntmps25
  go_upto_region 1 with fail
  rw [← HW.out]
  go_wp2_with fail
  refine (unhide HP _).mono ?_
  rintro e w' ⟨rfl, hw⟩
  obtain rfl := hw.symm
  go_wp2_with fail
  refine (unhide HM).mono ?_
  rintro e w1 ⟨rfl, X2, D2, vs2, hb1, hl1⟩
  have hl1' : Below N W w1 := hl1.below HNW.out HGe.out
  have HR := hide (HS.out _ _ _ _ hb1 hl1')
  have HFq := hide (fun w2 e q => HFr.out _ _ _ w1 w2 e hl1 q)
  clear hl1' hb1 hl1 HM HS HFr
  go_wp2_with fail
  refine (unhide HR).mono ?_
  intro e w2 hp
  have he := hp.1
  subst he
  have HF := hide (HFq.out _ _ hp)
  clear hp HR
  go_wp2_with fail
  go_ret
  exact HF.out
set_option maxRecDepth 100000 in
set_option maxHeartbeats 4000000 in
theorem step4K {K : List KwN} {G N B : Nat} {b : Bn} {oe : Option En} {m k : Nat} {w : World} (h : BnAt N B b oe m k w) (ki : KI K G b.d (oe.map (·.g))) (hN : N ≤ w.heap.size) (h0 : 0 < N) (ht : Tab w) (hm : m ≤ 100000000000000) (hk : 1500 ≤ k) (kd a b' kinds : Int) (s : ByteArray) (ok : SbOK kd a b' s) (hki : 0 < kinds ∧ kinds ≤ 9) (hkd : pickI kd kinds = 4) :
    Calls Tryz.prog 25 #[.pointer (some ⟨B, 0, none⟩), .agg (spC kd a b' s), .int .i64 kinds] w (KsPost K G N B b oe m k True w) := by
  obtain ⟨W, hW⟩ : ∃ W, W = w.alloc (.cells (spC kd a b' s) 33) := ⟨_, rfl⟩
  have hX := sbx_new h hN kd a b' s W hW
  have HW := hide hW
  have c0 := hX.c0
  have HP := hide (fun w' => pick_any kd kinds w' ok.kd.1 ok.kd.2 hki.1 (by omega))
  rw [hkd] at HP
  have hNW : N ≤ W.heap.size := Nat.le_trans hN hX.bel.size
  have HR := hide (startedK hX.bn.1 ki hNW h0 (ht.below h0 (hX.bel.mono hN)) (by omega) hk)
  have HFr : Hid (∀ e w', KsPost K G N B b none m k True W e w' → KsPost K G N B b oe m k True w e w') := fun e w' q => (q.from hX.bel).weak
  clear h ki hW hX ok hki hkd ht hk
  generalize spC kd a b' s = SC at *
  go_enter Tryz.func25, Tryz.ntmps25
  go_upto_region 1 with fail
  rw [← HW.out]
  go_wp2_with fail
  refine (unhide HP _).mono ?_
  rintro e w' ⟨rfl, hw⟩
  obtain rfl := hw.symm
  go_wp2_with fail
  refine (unhide HR).mono ?_
  intro e w1 hp
  have he := hp.1
  subst he
  have HF := hide (HFr.out _ _ hp)
  clear hp HR
  go_wp2_with fail
  go_ret
  exact HF.out
set_option maxRecDepth 100000 in
set_option maxHeartbeats 4000000 in
theorem step5K {K : List KwN} {G N B : Nat} {b : Bn} {oe : Option En} {m k : Nat} {w : World} (h : BnAt N B b oe m k w) (ki : KI K G b.d (oe.map (·.g))) (hN : N ≤ w.heap.size) (kd a b' kinds : Int) (s : ByteArray) (ok : SbOK kd a b' s) (hki : 0 < kinds ∧ kinds ≤ 9) (hkd : pickI kd kinds = 5) :
    Calls Tryz.prog 25 #[.pointer (some ⟨B, 0, none⟩), .agg (spC kd a b' s), .int .i64 kinds] w (KsPost K G N B b oe m k False w) := by
  obtain ⟨W, hW⟩ : ∃ W, W = w.alloc (.cells (spC kd a b' s) 33) := ⟨_, rfl⟩
  have hX := sbx_new h hN kd a b' s W hW
  have HW := hide hW
  have c0 := hX.c0
  have c1 := hX.c1
  have d0 := hX.bn.1.c0
  have HP := hide (fun w' => pick_any kd kinds w' ok.kd.1 ok.kd.2 hki.1 (by omega))
  rw [hkd] at HP
  have HPa := hide (fun w' => pick_any a 12 w' ok.a.1 ok.a.2 (by decide) (by decide))
  obtain ⟨n, hn, hn3⟩ := pickI_ex a 12 (by decide)
  rw [hn] at HPa
  have hNW : N ≤ W.heap.size := Nat.le_trans hN hX.bel.size
  have hbd : BnAt N B b oe m k W.drew := hX.bn.up hNW (Below.refl _ W).drew
  have HC := hide (cTrouble_any b.X b.D b.d b.vs (n : Int) W.drew hbd.1.x hbd.1.dv (by omega))
  have htr : dTrouble b.d (n : Int) = (0, { b.d with tr := n }) := by unfold dTrouble; rw [if_neg (by omega)]; rfl
  rw [htr] at HC
  simp only at HC
  have HF : Hid (∀ w1 vs1, DvAt b.D { b.d with tr := n } vs1 w1 → DFr b.D b.vs vs1 W.drew w1 → KsPost K G N B b oe m k False w (.returned (.bool true)) w1) := fun w1 vs1 q1 q2 => by
    obtain ⟨r1, r2⟩ := hbd.dev (m' := m) hNW q1 q2 hbd.1.ok hbd.1.wk
    exact ⟨rfl, _, oe, r1.more (by omega) (by omega), (FrB.of_below hX.bel.drew).trans r2, (ki.dev (d' := { b.d with tr := n }) rfl rfl rfl).more (Nat.le_succ _), rfl, fun q => q.elim⟩
  clear h ki hW hX ok hki hkd hn hn3 hbd htr
  generalize spC kd a b' s = SC at *
  go_enter Tryz.func25, Tryz.ntmps25
  go_upto_region 1 with fail
  rw [← HW.out]
  go_wp2_with fail
  refine (unhide HP _).mono ?_
  rintro e w' ⟨rfl, hw⟩
  obtain rfl := hw.symm
  go_upto_region 16 with fail
  refine held_pick2 6 [0, 1, 2, 3, 4, 5] [6, 7, 8] 7 (fun w' => w'.cell? ⟨B, 0, none⟩ = some (.pointer (some ⟨b.X, 0, none⟩)) ∧ w'.cell? ⟨w.heap.size, 1, none⟩ = some (.int .i64 a)) (by kernel_rfl) (by kernel_rfl) (fun d _ _ _ _ h => by cases d <;> exact h) ⟨d0, c1⟩ ?_
  iterate 6
    refine wpTakeI_step ?_ rfl rfl ?_ ?_
    rotate_left
    · rintro w' ⟨q0, q1⟩
      go_simp
      rfl
    go_simp
  refine wpTakeI_nil ?_
  refine wpTailI_step rfl rfl (fun K hK => ?_)
  go_simp
  refine (unhide HPa _).mono ?_
  rintro e w' ⟨rfl, hw⟩
  obtain rfl := hw.symm
  refine hK _ _ (fun _ => ⟨d0, c1⟩) ?_
  clear hK K
  refine wpTailI_step rfl rfl (fun K hK => ?_)
  go_simp
  refine (unhide HC).mono ?_
  rintro e w1 ⟨rfl, vs1, q1, q2⟩
  have HFin := hide (HF.out w1 vs1 q1 q2)
  clear q1 q2 HC HF
  refine hK _ _ (fun h => absurd h (by decide)) ?_
  clear hK K
  refine wpTailI_step rfl rfl (fun K hK => ?_)
  go_simp
  refine hK _ _ (fun h => absurd h (by decide)) ?_
  clear hK K
  refine wpTailI_nil ?_
  go_wp2_with fail
  go_ret
  exact HFin.out
end Go.Proofs.YtmmflekajbeamabGreatDoor
