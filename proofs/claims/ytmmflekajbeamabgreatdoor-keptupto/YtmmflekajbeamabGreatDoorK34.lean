/-
  Kept: areas laid anew, grown, opened, over a device that may fail: plain mathematics.
  Kept: a start, a Persist, a Compact: what comes of them: plain mathematics.
-/
import Derived.Test.YtmmflekajbeamabGreatDoorK33
namespace Go.Proofs.YtmmflekajbeamabGreatDoor

theorem clear_cases (d : DvN) {o : Nat} (ho : o < 2) : ((dClear d (o : Int)).1 = 0 ∧ (dClear d (o : Int)).2.b = upd d.b o [] ∧ (dClear d (o : Int)).2.n = upd d.n o 0) ∨ ((dClear d (o : Int)).1 ≠ 0 ∧ (dClear d (o : Int)).2.b = d.b ∧ (dClear d (o : Int)).2.n = d.n) := by
  unfold dClear
  rw [if_neg (by omega)]
  split
  · exact .inr ⟨by show (15 : Int) ≠ 0; decide, rfl, rfl⟩
  · exact .inl ⟨rfl, rfl, rfl⟩
theorem sync_cases (d : DvN) {o : Nat} (ho : o < 2) : ((dSync d (o : Int)).1 = 0 ∧ (dSync d (o : Int)).2.b = d.b ∧ (dSync d (o : Int)).2.n = upd d.n o (d.b o).length) ∨ ((dSync d (o : Int)).1 ≠ 0 ∧ (dSync d (o : Int)).2.b = d.b ∧ (dSync d (o : Int)).2.n = d.n) := by
  unfold dSync
  rw [if_neg (by omega)]
  split
  · exact .inr ⟨by show (15 : Int) ≠ 0; decide, rfl, rfl⟩
  · exact .inl ⟨rfl, rfl, rfl⟩
theorem add_cases (d : DvN) {o : Nat} (ho : o < 2) (s : List UInt8) : ((dAdd d (o : Int) s).1 = 0 ∧ (dAdd d (o : Int) s).2.b = upd d.b o (d.b o ++ s) ∧ (dAdd d (o : Int) s).2.n = d.n) ∨ ((dAdd d (o : Int) s).1 ≠ 0 ∧ (dAdd d (o : Int) s).2.b = d.b ∧ (dAdd d (o : Int) s).2.n = d.n) := by
  unfold dAdd
  rw [if_neg (by omega)]
  split
  · exact .inr ⟨by show (15 : Int) ≠ 0; decide, rfl, rfl⟩
  · split
    · exact .inr ⟨by show (14 : Int) ≠ 0; decide, rfl, rfl⟩
    · exact .inl ⟨rfl, rfl, rfl⟩
theorem read_cases (d : DvN) {o : Nat} (ho : o < 2) : (dRead d (o : Int)).2.2.b = d.b ∧ (dRead d (o : Int)).2.2.n = d.n ∧ ((dRead d (o : Int)).2.1 = 0 → (dRead d (o : Int)).1 = d.b o) := by
  unfold dRead
  rw [if_neg (by omega)]
  split
  · exact ⟨rfl, rfl, fun h => by cases h⟩
  · exact ⟨rfl, rfl, fun _ => rfl⟩
/-- Bytes laid: all, and lasting; or it failed, nothing there or not lasting. -/
theorem lay_cases (g : EgN) (d : DvN) {o : Nat} (ho : o < 2) (s : List UInt8) :
    ((layE dOps g d (o : Int) s).1 = 0 ∧ (layE dOps g d (o : Int) s).2.2.b = upd d.b o (d.b o ++ s) ∧ (layE dOps g d (o : Int) s).2.2.n = upd d.n o (d.b o ++ s).length) ∨
    ((layE dOps g d (o : Int) s).1 ≠ 0 ∧ ((layE dOps g d (o : Int) s).2.2.b = d.b ∨ (layE dOps g d (o : Int) s).2.2.b = upd d.b o (d.b o ++ s)) ∧ (layE dOps g d (o : Int) s).2.2.n = d.n) := by
  unfold layE
  rcases add_cases d ho s with ⟨a1, a2, a3⟩ | ⟨a1, a2, a3⟩
  · have e : (dOps.add d (o : Int) s).1 = 0 := a1
    rw [if_pos e]
    rcases sync_cases (dAdd d (o : Int) s).2 ho with ⟨b1, b2, b3⟩ | ⟨b1, b2, b3⟩
    · have e2 : (dOps.sync (dOps.add d (o : Int) s).2 (o : Int)).1 = 0 := b1
      rw [if_pos e2]
      refine .inl ⟨rfl, ?_, ?_⟩
      · exact b2.trans a2
      · refine b3.trans ?_
        rw [a3, a2, upd_at]
    · have e2 : ¬ (dOps.sync (dOps.add d (o : Int) s).2 (o : Int)).1 = 0 := b1
      rw [if_neg e2]
      exact .inr ⟨by show (15 : Int) ≠ 0; decide, .inr (b2.trans a2), b3.trans a3⟩
  · have e : ¬ (dOps.add d (o : Int) s).1 = 0 := a1
    rw [if_neg e]
    exact .inr ⟨by show (15 : Int) ≠ 0; decide, .inl a2, a3⟩
theorem scan_nil : scan [] = ar0 := scW_none _ frst_nil
theorem oc_nil {t : List UInt8} (h : Oc [] 0 t) : t = [] := h.full rfl
/-- The other area, as long as it is not whole. -/
theorem Kd.other {M : List (List UInt8)} {G : Nat} {g : EgN} {d d' : DvN} (h : Kd M G g d) (b : List UInt8) (n : Nat) (db : d'.b = upd d.b (1 - g.ar) b) (dn : d'.n = upd d.n (1 - g.ar) n) (hn : ∀ t, Oc b n t → (scan t).whole = false) : Kd M G g d' := by
  have har := h.ar
  have e : d'.b g.ar = d.b g.ar := by rw [db, upd_ne _ _ _ _ (by omega)]
  have en : d'.n g.ar = d.n g.ar := by rw [dn, upd_ne _ _ _ _ (by omega)]
  refine ⟨h.ar, h.gn, h.le, ?_, ?_, ?_, ?_, ?_, ?_, h.mu⟩
  · rw [e, en]; exact h.n
  · rw [e]; exact h.sg
  · rw [e]; exact h.sw
  · rw [e]; exact h.sl
  · rw [e]; exact h.so
  · rw [e, db, dn, upd_at, upd_at]
    intro t ht
    rw [← h.sg]
    exact cu_not h.ar (by rw [h.sg]; exact h.gn) h.sw (hn t ht)
/-- What comes of an area laid anew. -/
def AnFin (M : List (List UInt8)) (G : Nat) (g : EgN) (d : DvN) (R : Int × EgN × DvN) : Prop :=
  (R.1 = 0 ∧ R.2.1.b 0 = togB g ∧ R.2.1.b 1 = [] ∧ Kf M (G + 1) R.2.1 R.2.2 ∧ Ow R.2.1) ∨
  (R = (16, g, d) ∧ 4294967295 < g.gn + 1) ∨ (R = (14, g, d) ∧ 1500 < (frE g).length) ∨
  (R.1 = 15 ∧ R.2.1 = failE g ∧ Jd M (G + 1) R.2.2)
theorem tl_flip {M : List (List UInt8)} {G ar : Nat} {a o : ArN} (h : ar ≤ 1) (q : if 1 - ar = 0 then Tl M G o a else Tl M G a o) : if ar = 0 then Tl M G a o else Tl M G o a := by
  have : ar = 0 ∨ ar = 1 := by omega
  rcases this with rfl | rfl
  · exact q
  · exact q
theorem Kd.anew {M : List (List UInt8)} {G : Nat} {g : EgN} {d : DvN} (h : Kd M G g d) (p : GPu g) (pay : ∀ i, i < 2 → ∀ x ∈ g.b i, payL x) (ow : Ow g) : AnFin M G g d (anewE dOps g d (1 - g.ar)) := by
  have har := h.ar
  have hO := ow.tog_eq p
  have hbk : BkOK (togB g) := BkOK.book _
  have hen : ∀ x ∈ knT (togB g), EnOK x := knT_en hbk (fun x hx => by
    rw [hO] at hx
    rcases List.mem_append.1 hx with q | q
    · exact pay 0 (by decide) x q
    · exact pay 1 (by decide) x q)
  have hmu : ∀ s ∈ M, ∃ k ∈ togB g, wdsT k.1 = s := fun s hs => by
    obtain ⟨k, hk, e⟩ := h.mu s hs
    exact ⟨k, by rw [hO]; exact List.mem_append_left _ hk, e⟩
  have hte : Te M (knT (togB g)) := ⟨kn_own ow.tog, fun s hs => by
    obtain ⟨k, hk, e⟩ := hmu s hs
    exact ⟨(wdsT k.1, k.2), List.mem_map.2 ⟨k, hk, rfl⟩, e⟩⟩
  unfold AnFin anewE
  by_cases c1 : 4294967295 < g.gn + 1
  · rw [if_pos c1]
    exact .inr (.inl ⟨rfl, c1⟩)
  rw [if_neg c1]
  by_cases c2 : 1500 < (frE g).length
  · rw [if_pos c2]
    exact .inr (.inr (.inl ⟨rfl, c2⟩))
  rw [if_neg c2]
  have ho : 1 - g.ar < 2 := by omega
  have hoo : 1 - (1 - g.ar) = g.ar := by omega
  have hG : g.gn + 1 ≤ G + 1 := by have := h.le; omega
  rcases clear_cases d ho with ⟨a1, a2, a3⟩ | ⟨a1, a2, a3⟩
  · have e : (dOps.clear d ((1 - g.ar : Nat) : Int)).1 = 0 := a1
    have e' : dOps.clear d ((1 - g.ar : Nat) : Int) = dClear d ((1 - g.ar : Nat) : Int) := rfl
    rw [if_pos e, e']
    generalize (dClear d ((1 - g.ar : Nat) : Int)).2 = d1 at *
    have hk1 : Kd M G g d1 := h.other [] 0 a2 a3 (fun t ht => by rw [oc_nil ht, scan_nil]; rfl)
    have hb1 : d1.b (1 - g.ar) = [] := by rw [a2, upd_at]
    have hn1 : d1.n (1 - g.ar) = 0 := by rw [a3, upd_at]
    have hsc : scan (frE g) = ⟨g.gn + 1, true, (frE g).length, knT (togB g)⟩ := anew_all (by omega) (by omega) hen
    rcases lay_cases g d1 ho (frE g) with ⟨l1, l2, l3⟩ | ⟨l1, l2, l3⟩
    · rw [if_pos l1]
      generalize (layE dOps g d1 ((1 - g.ar : Nat) : Int) (frE g)).2.2 = d2 at *
      obtain ⟨e0, ee1, _⟩ := learn_b { g with ar := 1 - g.ar, gn := g.gn + 1, sz := (frE g).length }
      have et : togB { g with ar := 1 - g.ar, gn := g.gn + 1, sz := (frE g).length } = togB g := rfl
      rw [et] at e0
      rw [hb1, List.nil_append] at l2 l3
      have hbo : d2.b (1 - g.ar) = frE g := by rw [l2, upd_at]
      have hno : d2.n (1 - g.ar) = (frE g).length := by rw [l3, upd_at]
      have hba : d2.b g.ar = d.b g.ar := by rw [l2, upd_ne _ _ _ _ (by omega), a2, upd_ne _ _ _ _ (by omega)]
      have hna : d2.n g.ar = d.n g.ar := by rw [l3, upd_ne _ _ _ _ (by omega), a3, upd_ne _ _ _ _ (by omega)]
      have K : Kf M (G + 1) (newE g (1 - g.ar) (frE g).length) d2 := by
        refine ⟨⟨?_, ?_, ?_, ?_, ?_, ?_, ?_, ?_, ?_, ?_⟩, ?_, ?_⟩
        · show 1 - g.ar ≤ 1; omega
        · show g.gn + 1 ≠ 0; omega
        · exact hG
        · show d2.n (1 - g.ar) = (d2.b (1 - g.ar)).length; rw [hbo, hno]
        · show (scan (d2.b (1 - g.ar))).gen = g.gn + 1; rw [hbo, hsc]
        · show (scan (d2.b (1 - g.ar))).whole = true; rw [hbo, hsc]
        · show bookL (scan (d2.b (1 - g.ar))).list = (newE g (1 - g.ar) (frE g).length).b 0
          rw [hbo, hsc]
          show bookL (knT (togB g)) = _
          rw [bookL_self hbk]
          exact e0.symm
        · show ∀ x ∈ (scan (d2.b (1 - g.ar))).list, Own x
          rw [hbo, hsc]
          exact kn_own ow.tog
        · show ∀ t, Oc (d2.b (1 - (1 - g.ar))) (d2.n (1 - (1 - g.ar))) t → cuA (1 - g.ar) (scan (d2.b (1 - g.ar))) (scan t) = (1 - g.ar, g.gn + 1)
          rw [hoo, hba, hna, hbo, hsc]
          intro t ht
          obtain rfl := ht.full h.n
          exact cu_up (a := ⟨g.gn + 1, true, (frE g).length, knT (togB g)⟩) (by omega) rfl h.sw (by show (scan (d.b g.ar)).gen < g.gn + 1; rw [h.sg]; omega)
        · intro s hs
          show ∃ k ∈ (newE g (1 - g.ar) (frE g).length).b 0, wdsT k.1 = s
          have e0' : (newE g (1 - g.ar) (frE g).length).b 0 = togB g := e0
          rw [e0']
          exact hmu s hs
        · show (scan (d2.b (1 - g.ar))).good = (d2.b (1 - g.ar)).length
          rw [hbo, hsc]
        · show (frE g).length = (d2.b (1 - g.ar)).length
          rw [hbo]
      exact .inl ⟨rfl, e0, ee1, K, ow.learn _ _ _⟩
    · rw [if_neg l1]
      generalize (layE dOps g d1 ((1 - g.ar : Nat) : Int) (frE g)).2.2 = d2 at *
      refine .inr (.inr (.inr ⟨rfl, rfl, ?_⟩))
      show Jd M (G + 1) d2
      rcases l2 with l2 | l2
      · exact (hk1.of (Nat.le_succ _) rfl rfl rfl l2 l3 h.mu).jd
      · rw [hb1, List.nil_append] at l2
        have hbo : d2.b (1 - g.ar) = frE g := by rw [l2, upd_at]
        have hba : d2.b g.ar = d1.b g.ar := by rw [l2, upd_ne _ _ _ _ (by omega)]
        refine jd_of har (by rw [l3, hba]; exact hk1.n) (fun t ht => ?_)
        rw [hbo, l3, hn1] at ht
        rw [hba]
        obtain ⟨m, j, _, hm, hj, _, rfl⟩ := ht
        rcases anew_cut (g := g.gn + 1) (ws := knT (togB g)) (by omega) (by omega) hen m j hj hm with q | ⟨n, q⟩
        · have q' : (scan ((frE g).take m ++ j)).whole = false := q
          exact tl_of (cu_not har (by rw [hk1.sg]; exact h.gn) hk1.sw q') (by rw [hk1.sg]; exact h.gn) (by rw [hk1.sg]; have := h.le; omega) hk1.te
        · have q' : scan ((frE g).take m ++ j) = ⟨g.gn + 1, true, n, knT (togB g)⟩ := q
          refine tl_flip har ?_
          rw [q']
          refine tl_of (a := ⟨g.gn + 1, true, n, knT (togB g)⟩) (cu_up (a := ⟨g.gn + 1, true, n, knT (togB g)⟩) (by omega) rfl hk1.sw (by show (scan (d1.b g.ar)).gen < g.gn + 1; rw [hk1.sg]; omega)) (by show g.gn + 1 ≠ 0; omega) hG hte
  · have e : ¬ (dOps.clear d ((1 - g.ar : Nat) : Int)).1 = 0 := a1
    rw [if_neg e]
    exact .inr (.inr (.inr ⟨rfl, rfl, (h.of (Nat.le_succ _) rfl rfl rfl a2 a3 h.mu).jd⟩))
/-- The areas read. -/
theorem read_fin (g : EgN) (d : DvN) : ((readE dOps g d).1 = 0 ∧ (readE dOps g d).2.1 = g ∧ (readE dOps g d).2.2.1.b = d.b ∧ (∀ i, i < 2 → (readE dOps g d).2.2.1.n i = (d.b i).length) ∧ (readE dOps g d).2.2.2.1 = d.b 0 ∧ (readE dOps g d).2.2.2.2 = d.b 1) ∨
    ((readE dOps g d).1 = 15 ∧ (readE dOps g d).2.2.1.b = d.b ∧ (∀ i, i < 2 → (readE dOps g d).2.2.1.n i = d.n i ∨ (readE dOps g d).2.2.1.n i = (d.b i).length)) := by
  have two : ∀ {P : Nat → Prop}, P 0 → P 1 → ∀ i, i < 2 → P i := fun {P} p0 p1 i hi => by
    have : i = 0 ∨ i = 1 := by omega
    rcases this with rfl | rfl
    · exact p0
    · exact p1
  unfold readE
  rcases sync_cases d (o := 0) (by decide) with ⟨a1, a2, a3⟩ | ⟨a1, a2, a3⟩
  · have e1 : (dOps.sync d 0).1 = 0 := a1
    rw [if_pos e1]
    have x1 : (dOps.sync d 0).2.b = d.b := a2
    have y1 : (dOps.sync d 0).2.n = upd d.n 0 (d.b 0).length := a3
    generalize (dOps.sync d 0).2 = d1 at *
    rcases sync_cases d1 (o := 1) (by decide) with ⟨b1, b2, b3⟩ | ⟨b1, b2, b3⟩
    · have e2 : (dOps.sync d1 1).1 = 0 := b1
      rw [if_pos e2]
      have x2 : (dOps.sync d1 1).2.b = d.b := b2.trans x1
      have y2 : (dOps.sync d1 1).2.n = upd (upd d.n 0 (d.b 0).length) 1 (d.b 1).length := by
        refine Eq.trans b3 ?_
        rw [y1, x1]
      generalize (dOps.sync d1 1).2 = d2 at *
      obtain ⟨r1, r2, r3⟩ := read_cases d2 (o := 0) (by decide)
      have x3 : (dOps.read d2 0).2.2.b = d.b := r1.trans x2
      have y3 : (dOps.read d2 0).2.2.n = upd (upd d.n 0 (d.b 0).length) 1 (d.b 1).length := r2.trans y2
      have z3 : (dOps.read d2 0).2.1 = 0 → (dOps.read d2 0).1 = d.b 0 := fun q => (r3 q).trans (by rw [x2])
      generalize dOps.read d2 0 = R at *
      obtain ⟨t0, n0, d3⟩ := R
      simp only at x3 y3 z3 ⊢
      obtain ⟨s1, s2, s3⟩ := read_cases d3 (o := 1) (by decide)
      have x4 : (dOps.read d3 1).2.2.b = d.b := s1.trans x3
      have y4 : (dOps.read d3 1).2.2.n = upd (upd d.n 0 (d.b 0).length) 1 (d.b 1).length := s2.trans y3
      have z4 : (dOps.read d3 1).2.1 = 0 → (dOps.read d3 1).1 = d.b 1 := fun q => (s3 q).trans (by rw [x3])
      generalize dOps.read d3 1 = R at *
      obtain ⟨t1, n1, d4⟩ := R
      simp only at x4 y4 z4 ⊢
      have Y : ∀ i, i < 2 → upd (upd d.n 0 (d.b 0).length) 1 (d.b 1).length i = (d.b i).length := two (by rw [upd_ne _ _ _ _ (by decide), upd_at]) (upd_at _ _ _)
      by_cases c0 : n0 = 0
      · rw [if_pos c0]
        by_cases c1 : n1 = 0
        · rw [if_pos c1]
          exact .inl ⟨rfl, rfl, x4, fun i hi => by show d4.n i = _; rw [y4]; exact Y i hi, z3 c0, z4 c1⟩
        · rw [if_neg c1]
          exact .inr ⟨rfl, x4, fun i hi => .inr (by show d4.n i = _; rw [y4]; exact Y i hi)⟩
      · rw [if_neg c0]
        exact .inr ⟨rfl, x3, fun i hi => .inr (by show d3.n i = _; rw [y3]; exact Y i hi)⟩
    · have e2 : ¬ (dOps.sync d1 1).1 = 0 := b1
      rw [if_neg e2]
      refine .inr ⟨rfl, b2.trans x1, fun i hi => ?_⟩
      have q : (dOps.sync d1 1).2.n = upd d.n 0 (d.b 0).length := Eq.trans b3 y1
      show (dOps.sync d1 1).2.n i = _ ∨ (dOps.sync d1 1).2.n i = _
      rw [q]
      by_cases e : i = 0
      · rw [e, upd_at]; exact .inr rfl
      · rw [upd_ne _ _ _ _ e]; exact .inl rfl
  · have e1 : ¬ (dOps.sync d 0).1 = 0 := a1
    rw [if_neg e1]
    exact .inr ⟨rfl, a2, fun i _ => .inl (by show (dSync d ((0 : Nat) : Int)).2.n i = _; rw [a3])⟩
end Go.Proofs.YtmmflekajbeamabGreatDoor

namespace Go.Proofs.YtmmflekajbeamabGreatDoor

/-- What comes of a start. -/
def OpFin (M : List (List UInt8)) (G : Nat) (R : Int × EgN × DvN) : Prop :=
  (R.1 = 0 ∧ R.2.1.b 1 = [] ∧ Kf M (G + 1) R.2.1 R.2.2 ∧ Ow R.2.1) ∨ (R.1 ≠ 0 ∧ Jd M (G + 1) R.2.2 ∧ (R.1 = 16 → 4294967295 < G + 1) ∧ R.1 ≠ 14)
theorem tog_cur {g : EgN} {l : List (List UInt8 × List UInt8)} (h0 : g.b 0 = bookL l) (h1 : g.b 1 = []) : togB g = bookL l := by
  unfold togB
  rw [h0, h1]
  show bookL (knT (bookL l) ++ []) = _
  rw [List.append_nil]
  exact bookL_self (BkOK.book l)
theorem scan_blk (t : List UInt8) : ∀ x ∈ (scan t).list, blkB (bya x.1) = true := fun x hx => ((scan_gd t).2 x hx).blk
/-- A start over an area that counts. -/
theorem cur_open {M : List (List UInt8)} {G : Nat} {D : DvN} {c : Nat} (hc : c ≤ 1) (hn : ∀ i, i < 2 → D.n i = (D.b i).length) (hl : ∀ i, i < 2 → (D.b i).length ≤ 1500) (hcu : cuA c (scan (D.b c)) (scan (D.b (1 - c))) = (c, (scan (D.b c)).gen)) (hg : (scan (D.b c)).gen ≠ 0) (hw : (scan (D.b c)).whole = true) (hG : (scan (D.b c)).gen ≤ G) (te : Te M (scan (D.b c)).list) (k : Int) (z : List Int) :
    OpFin M G (if (scan (D.b c)).good < (D.b c).length then anewE dOps (curE (newG k z) c (scan (D.b c)) (D.b c).length) D (1 - c) else (0, curE (newG k z) c (scan (D.b c)) (D.b c).length, D)) := by
  have e0 : (curE (newG k z) c (scan (D.b c)) (D.b c).length).b 0 = bookL (scan (D.b c)).list := by
    show upd (newG k z).b 0 (bookL (scan (D.b c)).list) 0 = _
    rw [upd_at]
  have e1 : (curE (newG k z) c (scan (D.b c)) (D.b c).length).b 1 = [] := by
    show upd (newG k z).b 0 (bookL (scan (D.b c)).list) 1 = _
    rw [upd_ne _ _ _ _ (by decide)]
    rfl
  have K : Kd M G (curE (newG k z) c (scan (D.b c)) (D.b c).length) D := by
    refine ⟨hc, hg, hG, hn c (by omega), rfl, hw, e0.symm, te.1, ?_, ?_⟩
    · intro t ht
      have ht' : Oc (D.b (1 - c)) (D.n (1 - c)) t := ht
      obtain rfl := ht'.full (hn _ (by omega))
      exact hcu
    · intro s hs
      obtain ⟨x, hx, rfl⟩ := te.2 s hs
      obtain ⟨q, hq, e⟩ := book_has hx (scan_blk _ x hx)
      exact ⟨q, by rw [e0]; exact hq, e⟩
  have ow : Ow (curE (newG k z) c (scan (D.b c)) (D.b c).length) := by
    refine ⟨?_, ?_, ?_⟩
    · rw [e0]; exact book_own te.1
    · rw [e1]; intro q hq; cases hq
    · rw [e1]; intro q hq; cases hq
  have gd := scan_gd (D.b c)
  have ga := (scan_ok (D.b c)).2
  split
  · have p : GPu (curE (newG k z) c (scan (D.b c)) (D.b c).length) := by
      refine ⟨fun i hi => ?_, ?_⟩
      · by_cases i0 : i = 0
        · rw [i0, e0]; exact BkOK.book _
        · have : (curE (newG k z) c (scan (D.b c)) (D.b c).length).b i = [] := by
            show upd (newG k z).b 0 (bookL (scan (D.b c)).list) i = _
            rw [upd_ne _ _ _ _ i0]
            rfl
          rw [this]; exact BkOK.nil
      · rw [e1]; intro q hq; cases hq
    have hpay : ∀ x ∈ bookL (scan (D.b c)).list, payL x := fold_all (Q := payL) _ [] (fun _ h => by cases h) (fun x hx hb => by
      show (wdsT (rdW x.1)).length + x.2.length ≤ 199
      rw [wds_rdW hb]
      exact (gd.2 x hx).all)
    have pay : ∀ i, i < 2 → ∀ x ∈ (curE (newG k z) c (scan (D.b c)) (D.b c).length).b i, payL x := fun i hi => by
      have : i = 0 ∨ i = 1 := by omega
      rcases this with rfl | rfl
      · rw [e0]; exact hpay
      · rw [e1]; intro q hq; cases hq
    rcases K.anew p pay ow with ⟨r0, _, r2, r3, r4⟩ | ⟨r, q⟩ | ⟨r, q⟩ | ⟨r1, r2, r3⟩
    · exact .inl ⟨r0, r2, r3, r4⟩
    · have r' : anewE dOps (curE (newG k z) c (scan (D.b c)) (D.b c).length) D (1 - c) = _ := r
      rw [r']
      have q' : 4294967295 < (scan (D.b c)).gen + 1 := q
      exact .inr ⟨by show (16 : Int) ≠ 0; decide, K.jd.more (Nat.le_succ _), fun _ => by omega, by show (16 : Int) ≠ 14; decide⟩
    · exfalso
      have hf : (frE (curE (newG k z) c (scan (D.b c)) (D.b c).length)).length = 20 + (entsT (knT (bookL (scan (D.b c)).list))).length := by
        unfold frE
        rw [anew_len, tog_cur e0 e1]
      rw [ents_S _ (knT_en (BkOK.book _) hpay)] at hf
      have h3 := EnS_fold (scan (D.b c)).list []
      have h4 : EnS (knT ([] : List KwN)) = 0 := rfl
      have h5 : EnS (knT (bookL (scan (D.b c)).list)) ≤ EnS (scan (D.b c)).list := by
        have : bookL (scan (D.b c)).list = (scan (D.b c)).list.foldl bkAdd [] := rfl
        rw [this]
        omega
      have h6 := gd.1
      rw [if_neg hg, if_pos hw] at h6
      have := hl c (by omega)
      omega
    · have e' : (anewE dOps (curE (newG k z) c (scan (D.b c)) (D.b c).length) D (1 - c)).1 = 15 := r1
      refine .inr ⟨by rw [e']; decide, r3, fun e => ?_, by rw [e']; decide⟩
      rw [e'] at e
      cases e
  · exact .inl ⟨rfl, e1, ⟨K.of (Nat.le_succ _) rfl rfl rfl rfl rfl K.mu, by show (scan (D.b c)).good = (D.b c).length; omega, rfl⟩, ow⟩
/-- A start over areas that tell nothing. -/
theorem new_open {G : Nat} {D : DvN} (hn : ∀ i, i < 2 → D.n i = (D.b i).length) (h0 : (scan (D.b 0)).whole = false) (h1 : (scan (D.b 1)).whole = false) (k : Int) (z : List Int) : OpFin [] G (anewE dOps { newG k z with ar := 1 } D 0) := by
  have hf : frE { newG k z with ar := 1 } = anewT 1 [] := rfl
  have nil : ∀ x ∈ ([] : List (List UInt8 × List UInt8)), EnOK x := fun x hx => by cases hx
  have hlen : (anewT 1 []).length = 20 := anew_len 1 []
  have hsc : scan (anewT 1 []) = ⟨1, true, (anewT 1 []).length, []⟩ := anew_all (by decide) (by decide) nil
  have te : Te [] ([] : List (List UInt8 × List UInt8)) := ⟨fun x hx => (by cases hx), fun s hs => (by cases hs)⟩
  have tn : ∀ {a b : ArN}, a.whole = false → b.whole = false → Tl [] (G + 1) a b := fun {a b} ha hb => by
    have e : cur2 a b = (0, 0) := by
      unfold cur2 cur1
      rw [if_neg (by rw [hb]; intro q; cases q.1), if_neg (by rw [ha]; decide)]
    unfold Tl
    rw [e]
    exact ⟨Nat.zero_le _, .inl ⟨rfl, rfl⟩⟩
  have tw : ∀ {n : Nat} {b : ArN}, b.whole = false → Tl [] (G + 1) ⟨1, true, n, []⟩ b := fun {n b} hb => by
    have e : cur2 ⟨1, true, n, []⟩ b = (0, 1) := cur2_one b rfl hb
    unfold Tl
    rw [e]
    exact ⟨by show 1 ≤ G + 1; omega, .inr ⟨by show (1 : Nat) ≠ 0; decide, te⟩⟩
  have no : ((15 : Int) ≠ 0) := by decide
  unfold anewE
  rw [if_neg (by show ¬ 4294967295 < 0 + 1; omega), hf, if_neg (by omega)]
  rcases clear_cases D (o := 0) (by decide) with ⟨a1, a2, a3⟩ | ⟨a1, a2, a3⟩
  · have e : (dOps.clear D ((0 : Nat) : Int)).1 = 0 := a1
    have e' : dOps.clear D ((0 : Nat) : Int) = dClear D ((0 : Nat) : Int) := rfl
    rw [if_pos e, e']
    generalize (dClear D ((0 : Nat) : Int)).2 = d1 at *
    have hb1 : d1.b 1 = D.b 1 := by rw [a2, upd_ne _ _ _ _ (by decide)]
    have hn1 : d1.n 1 = (D.b 1).length := by rw [a3, upd_ne _ _ _ _ (by decide)]; exact hn 1 (by decide)
    have hb0 : d1.b 0 = [] := by rw [a2, upd_at]
    have hn0 : d1.n 0 = 0 := by rw [a3, upd_at]
    rcases lay_cases { newG k z with ar := 1 } d1 (o := 0) (by decide) (anewT 1 []) with ⟨l1, l2, l3⟩ | ⟨l1, l2, l3⟩
    · rw [if_pos l1]
      generalize (layE dOps { newG k z with ar := 1 } d1 ((0 : Nat) : Int) (anewT 1 [])).2.2 = d2 at *
      rw [hb0, List.nil_append] at l2 l3
      have c0 : d2.b 0 = anewT 1 [] := by rw [l2, upd_at]
      have m0 : d2.n 0 = (anewT 1 []).length := by rw [l3, upd_at]
      have c1 : d2.b 1 = D.b 1 := by rw [l2, upd_ne _ _ _ _ (by decide)]; exact hb1
      have m1 : d2.n 1 = (D.b 1).length := by rw [l3, upd_ne _ _ _ _ (by decide)]; exact hn1
      refine .inl ⟨rfl, rfl, ⟨⟨?_, ?_, ?_, ?_, ?_, ?_, ?_, ?_, ?_, ?_⟩, ?_, ?_⟩, ⟨?_, ?_, ?_⟩⟩
      · show 0 ≤ 1; decide
      · show 0 + 1 ≠ 0; decide
      · show 0 + 1 ≤ G + 1; omega
      · show d2.n 0 = (d2.b 0).length; rw [c0, m0]
      · show (scan (d2.b 0)).gen = 0 + 1; rw [c0, hsc]
      · show (scan (d2.b 0)).whole = true; rw [c0, hsc]
      · show bookL (scan (d2.b 0)).list = _; rw [c0, hsc]; rfl
      · show ∀ x ∈ (scan (d2.b 0)).list, Own x; rw [c0, hsc]; intro x hx; cases hx
      · show ∀ t, Oc (d2.b 1) (d2.n 1) t → cur2 (scan (d2.b 0)) (scan t) = (0, 0 + 1)
        rw [c0, c1, m1, hsc]
        intro t ht
        obtain rfl := ht.full rfl
        exact cur2_one _ rfl h1
      · intro s hs; cases hs
      · show (scan (d2.b 0)).good = (d2.b 0).length; rw [c0, hsc]
      · show (anewT 1 []).length = (d2.b 0).length; rw [c0]
      · intro q hq
        cases hq
      · intro q hq
        cases hq
      · intro q hq
        cases hq
    · rw [if_neg l1]
      generalize (layE dOps { newG k z with ar := 1 } d1 ((0 : Nat) : Int) (anewT 1 [])).2.2 = d2 at *
      refine .inr ⟨no, ?_, fun e => (by cases e), by show (15 : Int) ≠ 14; decide⟩
      show Jd [] (G + 1) d2
      intro t0 t1 h t
      rw [l3, hn0] at h
      rw [l3, hn1] at t
      rcases l2 with l2 | l2
      · rw [l2, hb0] at h
        rw [l2, hb1] at t
        obtain rfl := t.full rfl
        rw [oc_nil h, scan_nil]
        exact tn rfl h1
      · rw [hb0, List.nil_append] at l2
        rw [l2, upd_at] at h
        rw [l2, upd_ne _ _ _ _ (by decide), hb1] at t
        obtain rfl := t.full rfl
        obtain ⟨m, j, _, hm, hj, _, rfl⟩ := h
        rcases anew_cut (g := 1) (ws := []) (by decide) (by decide) nil m j hj hm with q | ⟨n, q⟩
        · exact tn q h1
        · rw [q]; exact tw h1
  · have e : ¬ (dOps.clear D ((0 : Nat) : Int)).1 = 0 := a1
    rw [if_neg e]
    refine .inr ⟨no, ?_, fun e => (by cases e), by show (15 : Int) ≠ 14; decide⟩
    show Jd [] (G + 1) (dClear D ((0 : Nat) : Int)).2
    intro t0 t1 h t
    rw [a2, a3] at h t
    obtain rfl := h.full (hn 0 (by decide))
    obtain rfl := t.full (hn 1 (by decide))
    exact tn h0 h1
/-- A start. -/
theorem Jd.open {M : List (List UInt8)} {G : Nat} {d : DvN} (h : Jd M G d) (ok : DvOK d) (hl : ∀ i, i < 2 → (d.b i).length ≤ 1500) (k : Int) (z : List Int) : OpFin M G (openE dOps (newG k z) d) := by
  unfold openE
  rcases read_fin (newG k z) d with ⟨r1, r2, r3, r4, r5, r6⟩ | ⟨r1, r2, r3⟩
  · rw [if_pos r1, r2, r5, r6]
    generalize (readE dOps (newG k z) d).2.2.1 = D at *
    have hT : Tl M G (scan (d.b 0)) (scan (d.b 1)) := h _ _ (Oc.self (ok 0 (by decide))) (Oc.self (ok 1 (by decide)))
    have hn : ∀ i, i < 2 → D.n i = (D.b i).length := fun i hi => by rw [r4 i hi, r3]
    have hl' : ∀ i, i < 2 → (D.b i).length ≤ 1500 := fun i hi => by rw [r3]; exact hl i hi
    rw [← r3] at hT ⊢
    have ok0 := (scan_ok (D.b 0)).1
    have ok1 := (scan_ok (D.b 1)).1
    obtain ⟨hG, hT⟩ := hT
    unfold findE
    by_cases c : (cur2 (scan (D.b 0)) (scan (D.b 1))).2 = 0
    · rw [if_pos c]
      have hM : M = [] := by
        rcases hT with q | q
        · exact q.2
        · exact absurd c q.1
      rw [hM]
      have w1 : (scan (D.b 1)).whole = false := by
        cases hq : (scan (D.b 1)).whole with
        | false => rfl
        | true =>
          exfalso
          have g1 := ok1.wh hq
          by_cases e : cur1 (scan (D.b 0)) < (scan (D.b 1)).gen
          · unfold cur2 at c
            rw [if_pos ⟨hq, e⟩] at c
            have c' : (scan (D.b 1)).gen = 0 := c
            omega
          · unfold cur2 at c
            rw [if_neg (fun q => e q.2)] at c
            have c' : cur1 (scan (D.b 0)) = 0 := c
            omega
      have w0 : (scan (D.b 0)).whole = false := by
        cases hq : (scan (D.b 0)).whole with
        | false => rfl
        | true =>
          exfalso
          have g0 := ok0.wh hq
          rw [cur2_one _ hq w1] at c
          have c' : (scan (D.b 0)).gen = 0 := c
          omega
      exact new_open hn w0 w1 k z
    · rw [if_neg c]
      have te : Te M (if (cur2 (scan (D.b 0)) (scan (D.b 1))).1 = 0 then scan (D.b 0) else scan (D.b 1)).list := by
        rcases hT with q | q
        · exact absurd q.1 c
        · exact q.2
      rcases cur2_cases (scan (D.b 0)) (scan (D.b 1)) with e | e
      · rw [e] at c te hG
        rw [e, if_neg (show ¬ (1 : Nat) = 0 by decide)]
        have w1 : (scan (D.b 1)).whole = true := by
          unfold cur2 at e
          split at e
          · rename_i q; exact q.1
          · have e1 := congrArg Prod.fst e
            cases e1
        exact cur_open (c := 1) (by decide) hn hl' e c w1 hG te k z
      · rw [e] at c te hG
        rw [e, if_pos rfl]
        have w0 : (scan (D.b 0)).whole = true := by
          cases hq : (scan (D.b 0)).whole with
          | true => rfl
          | false =>
            exfalso
            have c' : ¬ cur1 (scan (D.b 0)) = 0 := c
            unfold cur1 at c'
            rw [if_neg (by rw [hq]; decide)] at c'
            exact c' rfl
        have eg : cur1 (scan (D.b 0)) = (scan (D.b 0)).gen := by unfold cur1; rw [if_pos w0]
        rw [eg] at e c hG
        exact cur_open (c := 0) (by decide) hn hl' e c w0 hG te k z
  · rw [if_neg (by rw [r1]; decide)]
    refine .inr ⟨by show (readE dOps (newG k z) d).1 ≠ 0; rw [r1]; decide, (h.same ok r2 r3).more (Nat.le_succ _), fun e => ?_, by show (readE dOps (newG k z) d).1 ≠ 14; rw [r1]; decide⟩
    have e' : (readE dOps (newG k z) d).1 = 16 := e
    rw [r1] at e'
    cases e'
theorem read_tr {d : DvN} (h : d.tr = 0) (g : EgN) : ∃ d', readE dOps g d = (0, g, d', d.b 0, d.b 1) ∧ d'.tr = 0 := by
  have s0 := sync_calm (d := d) h (i := 0) (by decide)
  have s1 := sync_calm (d := { d with n := upd d.n 0 (d.b 0).length }) h (i := 1) (by decide)
  have r0 := read_calm (d := { d with n := upd (upd d.n 0 (d.b 0).length) 1 (d.b 1).length }) h (i := 0) (by decide)
  have r1 := read_calm (d := { d with n := upd (upd d.n 0 (d.b 0).length) 1 (d.b 1).length }) h (i := 1) (by decide)
  refine ⟨{ d with n := upd (upd d.n 0 (d.b 0).length) 1 (d.b 1).length }, ?_, h⟩
  rw [readE_d]
  have e0 : dSync d 0 = (0, { d with n := upd d.n 0 (d.b 0).length }) := s0
  have e1 : dSync { d with n := upd d.n 0 (d.b 0).length } 1 = (0, { d with n := upd (upd d.n 0 (d.b 0).length) 1 (d.b 1).length }) := s1
  have e2 : dRead { d with n := upd (upd d.n 0 (d.b 0).length) 1 (d.b 1).length } 0 = (d.b 0, 0, { d with n := upd (upd d.n 0 (d.b 0).length) 1 (d.b 1).length }) := r0
  have e3 : dRead { d with n := upd (upd d.n 0 (d.b 0).length) 1 (d.b 1).length } 1 = (d.b 1, 0, { d with n := upd (upd d.n 0 (d.b 0).length) 1 (d.b 1).length }) := r1
  rw [e0]
  simp only [if_true]
  rw [e1]
  simp only [if_true]
  rw [e2]
  simp only [if_true]
  rw [e3]
  simp only [if_true]
theorem anew_calm (g : EgN) {d : DvN} (h : d.tr = 0) {i : Nat} (hi : i < 2) : (anewE dOps g d i).1 ≠ 15 := by
  unfold anewE
  split
  · show (16 : Int) ≠ 15; decide
  · split
    · show (14 : Int) ≠ 15; decide
    · rename_i c2
      have ec : dOps.clear d (i : Int) = (0, { d with b := upd d.b i [], n := upd d.n i 0 }) := by
        show dClear d (i : Int) = _
        unfold dClear
        rw [if_neg (by omega), if_neg (by rw [h]; omega), calm_tick h]
        rfl
      rw [ec]
      simp only [if_true]
      have hl : ((({ d with b := upd d.b i [], n := upd d.n i 0 } : DvN)).b i).length + (frE g).length ≤ 1500 := by
        show (upd d.b i [] i).length + _ ≤ _
        rw [upd_at]
        show 0 + _ ≤ _
        omega
      have ha := add_calm (d := { d with b := upd d.b i [], n := upd d.n i 0 }) h hi hl
      have hcp := cp_calm (d := { d with b := upd d.b i [], n := upd d.n i 0 }) h hi hl
      have el : (layE dOps g { d with b := upd d.b i [], n := upd d.n i 0 } (i : Int) (frE g)).1 = 0 := by
        rw [layE_d, hcp, ha]
        rfl
      rw [if_pos el]
      show (0 : Int) ≠ 15; decide
theorem open_ok {M : List (List UInt8)} {G : Nat} {d : DvN} (h : Jd M G d) (ok : DvOK d) (hl : ∀ i, i < 2 → (d.b i).length ≤ 1500) (ht : d.tr = 0) (hG : G < 4294967295) (k : Int) (z : List Int) : (openE dOps (newG k z) d).1 = 0 := by
  have q := h.open ok hl k z
  rcases q with q | ⟨q1, _, q3, q4⟩
  · exact q.1
  · exfalso
    have hc := open_code dOps (newG k z) d
    have n15 : (openE dOps (newG k z) d).1 ≠ 15 := by
      obtain ⟨d', hr⟩ := read_tr ht (newG k z)
      unfold openE
      rw [hr.1, if_pos rfl]
      unfold findE
      split
      · exact anew_calm _ hr.2 (by decide)
      · split
        · split
          · exact anew_calm _ hr.2 (by decide)
          · show (0 : Int) ≠ 15; decide
        · split
          · exact anew_calm _ hr.2 (by decide)
          · show (0 : Int) ≠ 15; decide
    unfold isCd at hc
    rcases hc with c | c | c | c
    · exact q1 c
    · exact q4 c
    · exact n15 c
    · have := q3 c
      omega
/-- What comes of what is laid down. -/
def LaFin (M : List (List UInt8)) (G : Nat) (g : EgN) (d : DvN) (R : Int × EgN × DvN) : Prop :=
  (R.1 = 0 ∧ R.2.1.b 0 = togB g ∧ R.2.1.b 1 = [] ∧ Kf M (G + 1) R.2.1 R.2.2 ∧ Ow R.2.1) ∨
  (R.1 ≠ 0 ∧ (R.2 = (g, d) ∨ (R.2.1 = failE g ∧ Jd M (G + 1) R.2.2)))
theorem AnFin.la {M : List (List UInt8)} {G : Nat} {g : EgN} {d : DvN} {R : Int × EgN × DvN} (h : AnFin M G g d R) : LaFin M G g d R := by
  rcases h with q | ⟨rfl, _⟩ | ⟨rfl, _⟩ | ⟨q1, q2, q3⟩
  · exact .inl q
  · exact .inr ⟨by show (16 : Int) ≠ 0; decide, .inl rfl⟩
  · exact .inr ⟨by show (14 : Int) ≠ 0; decide, .inl rfl⟩
  · exact .inr ⟨by rw [q1]; decide, .inr ⟨q2, q3⟩⟩
theorem cu_same {ar : Nat} {a a' o : ArN} (hg : a'.gen = a.gen) (hw : a'.whole = a.whole) : cuA ar a' o = cuA ar a o := by
  unfold cuA cur2 cur1
  rw [hg, hw]
theorem jd_two {M : List (List UInt8)} {G ar : Nat} {d : DvN} (har : ar ≤ 1) (h : ∀ t t', Oc (d.b ar) (d.n ar) t → Oc (d.b (1 - ar)) (d.n (1 - ar)) t' → if ar = 0 then Tl M G (scan t) (scan t') else Tl M G (scan t') (scan t)) : Jd M G d := by
  have : ar = 0 ∨ ar = 1 := by omega
  rcases this with rfl | rfl
  · intro t0 t1 h0 h1
    have q := h t0 t1 h0 h1
    rw [if_pos rfl] at q
    exact q
  · intro t0 t1 h0 h1
    have q := h t1 t0 h1 h0
    rw [if_neg (by decide)] at q
    exact q
theorem Kf.pers {M : List (List UInt8)} {G : Nat} {g : EgN} {d : DvN} (h : Kf M G g d) (p : GPu g) (pay : ∀ i, i < 2 → ∀ x ∈ g.b i, payL x) (ow : Ow g) : LaFin M G g d (persE dOps g d) := by
  have har := h.k.ar
  have hO := ow.tog_eq p
  unfold persE
  by_cases c1 : (g.b 1).length = 0
  · rw [if_pos c1]
    have h1 := List.length_eq_zero_iff.1 c1
    exact .inl ⟨rfl, by show g.b 0 = togB g; rw [hO, h1, List.append_nil], h1, h.of (Nat.le_succ _) rfl rfl rfl rfl rfl rfl h.k.mu, ow⟩
  rw [if_neg c1]
  by_cases c2 : 1500 < g.sz + (entsT (knT (g.b 1))).length
  · rw [if_pos c2]
    exact (h.k.anew p pay ow).la
  rw [if_neg c2]
  have hen : ∀ x ∈ knT (g.b 1), EnOK x := knT_en (p.bk 1 (by decide)) (pay 1 (by decide))
  have hsc := h.sc
  have hal := ents_all hsc h.k.gn hen
  rcases lay_cases g d (o := g.ar) (by omega) (entsT (knT (g.b 1))) with ⟨l1, l2, l3⟩ | ⟨l1, l2, l3⟩
  · rw [if_pos l1]
    generalize (layE dOps g d (g.ar : Int) (entsT (knT (g.b 1)))).2.2 = d2 at *
    obtain ⟨e0, ee1, _⟩ := learn_b { g with sz := g.sz + (entsT (knT (g.b 1))).length }
    have et : togB { g with sz := g.sz + (entsT (knT (g.b 1))).length } = togB g := rfl
    rw [et] at e0
    have cb : d2.b g.ar = d.b g.ar ++ entsT (knT (g.b 1)) := by rw [l2, upd_at]
    have cn : d2.n g.ar = (d.b g.ar ++ entsT (knT (g.b 1))).length := by rw [l3, upd_at]
    have ob : d2.b (1 - g.ar) = d.b (1 - g.ar) := by rw [l2, upd_ne _ _ _ _ (by omega)]
    have on : d2.n (1 - g.ar) = d.n (1 - g.ar) := by rw [l3, upd_ne _ _ _ _ (by omega)]
    have K : Kf M (G + 1) (learnE { g with sz := g.sz + (entsT (knT (g.b 1))).length }) d2 := by
      refine ⟨⟨har, h.k.gn, Nat.le_succ_of_le h.k.le, ?_, ?_, ?_, ?_, ?_, ?_, ?_⟩, ?_, ?_⟩
      · show d2.n g.ar = (d2.b g.ar).length; rw [cb, cn]
      · show (scan (d2.b g.ar)).gen = g.gn; rw [cb, hal]
      · show (scan (d2.b g.ar)).whole = true; rw [cb, hal]
      · show bookL (scan (d2.b g.ar)).list = (learnE { g with sz := g.sz + (entsT (knT (g.b 1))).length }).b 0
        rw [cb, hal, e0]
        show bookL ((scan (d.b g.ar)).list ++ knT (g.b 1)) = _
        have q := h.k.sl
        have r := bookL_self (p.bk 0 (by decide))
        unfold togB
        unfold bookL at q r ⊢
        rw [List.foldl_append, List.foldl_append, q, r]
      · show ∀ x ∈ (scan (d2.b g.ar)).list, Own x
        rw [cb, hal]
        intro x hx
        rcases List.mem_append.1 hx with q | q
        · exact h.k.so x q
        · exact kn_own ow.o1 x q
      · show ∀ t, Oc (d2.b (1 - g.ar)) (d2.n (1 - g.ar)) t → cuA g.ar (scan (d2.b g.ar)) (scan t) = (g.ar, g.gn)
        rw [ob, on, cb]
        intro t ht
        rw [← h.k.ot t ht]
        exact cu_same (by rw [hal, h.k.sg]) (by rw [hal, h.k.sw])
      · intro s hs
        obtain ⟨q, hq, e⟩ := h.k.mu s hs
        have e0' : (learnE { g with sz := g.sz + (entsT (knT (g.b 1))).length }).b 0 = togB g := e0
        rw [e0', hO]
        exact ⟨q, List.mem_append_left _ hq, e⟩
      · show (scan (d2.b g.ar)).good = (d2.b g.ar).length; rw [cb, hal]
      · show g.sz + (entsT (knT (g.b 1))).length = (d2.b g.ar).length; rw [cb, List.length_append, h.sz]
    exact .inl ⟨rfl, e0, ee1, K, ow.learn g.ar g.gn (g.sz + (entsT (knT (g.b 1))).length)⟩
  · rw [if_neg l1]
    generalize (layE dOps g d (g.ar : Int) (entsT (knT (g.b 1)))).2.2 = d2 at *
    refine .inr ⟨by show (15 : Int) ≠ 0; decide, .inr ⟨rfl, ?_⟩⟩
    show Jd M (G + 1) d2
    rcases l2 with l2 | l2
    · exact (h.k.of (Nat.le_succ _) rfl rfl rfl l2 l3 h.k.mu).jd
    · refine jd_two har (fun t t' a b => ?_)
      rw [l2, l3, upd_at, h.k.n] at a
      rw [l2, l3, upd_ne _ _ _ _ (by omega)] at b
      obtain ⟨m, j, hm0, hm, hj, _, rfl⟩ := a
      obtain ⟨i, n, q⟩ := ents_cut hsc h.k.gn hen m j hj hm hm0
      refine tl_of ?_ ?_ ?_ ?_
      · rw [q]
        show _ = (g.ar, g.gn)
        rw [← h.k.ot t' b]
        exact cu_same (by show g.gn = _; rw [h.k.sg]) (by show true = _; rw [h.k.sw])
      · rw [q]; exact h.k.gn
      · rw [q]; exact Nat.le_succ_of_le h.k.le
      · rw [q]
        have te := h.k.te
        refine ⟨fun x hx => ?_, fun s hs => ?_⟩
        · rcases List.mem_append.1 hx with q | q
          · exact te.1 x q
          · exact kn_own ow.o1 x (List.mem_of_mem_take q)
        · obtain ⟨x, hx, e⟩ := te.2 s hs
          exact ⟨x, List.mem_append_left _ hx, e⟩
end Go.Proofs.YtmmflekajbeamabGreatDoor
