/-
  Warm: what is laid down is known behind a crash: plain mathematics.
  Faithful, Kept, Warm: the small program, walked (first).
  Warm: the pieces of a run, walked one by one.
  Warm: small lemmas of the walk.
  Faithful, Kept: a script of steps in memory; a state made right runs.
-/
import Derived.Test.YtmmflekajbeamabGreatDoorW35
import Derived.Test.YtmmflekajbeamabGreatDoorW15
namespace Go.Proofs.YtmmflekajbeamabGreatDoor

/-- A new engine over a new device. -/
structure O1 (z : List Int) (g : EgN) (d : DvN) : Prop where
  e1 : E1 g
  z : g.z = z
  b2 : g.b 2 = []
  c0 : g.c 0 = 0
  b1 : g.b 1 = []
  ar : g.ar = 0
  gn : g.gn = 1
  sz : g.sz = (anewT 1 []).length
  fl : g.fl = false
  wk : g.wk = 1
  d0 : d.b 0 = anewT 1 []
  d1 : d.b 1 = []
  sy : Sy d
  dw : d.wk = 1
set_option maxRecDepth 100000 in
theorem op0_all {z : List Int} : O1 z (op0 z).2.1 (op0 z).2.2 := by
  have b0 : (op0 z).2.1.b 0 = [] := by kernel_rfl
  have b1 : (op0 z).2.1.b 1 = [] := by kernel_rfl
  have b2 : (op0 z).2.1.b 2 = [] := by kernel_rfl
  have n0 : (op0 z).2.2.n 0 = ((op0 z).2.2.b 0).length := by kernel_rfl
  have n1 : (op0 z).2.2.n 1 = ((op0 z).2.2.b 1).length := by kernel_rfl
  refine ⟨⟨b0, by rw [b1, b2], ?_, by kernel_rfl, by kernel_rfl, ?_, ?_⟩, by kernel_rfl, b2, by kernel_rfl, b1, by kernel_rfl, by kernel_rfl, by kernel_rfl, by kernel_rfl, by kernel_rfl, by kernel_rfl, by kernel_rfl, ⟨by kernel_rfl, fun i hi => ?_⟩, by kernel_rfl⟩
  · rw [b1]; intro x hx; cases hx
  · rw [b1]; show (op0 z).2.1.c 3 = 0; kernel_rfl
  · rw [b1]; intro x hx; cases hx
  · have : i = 0 ∨ i = 1 := by omega
    rcases this with rfl | rfl
    · exact n0
    · exact n1
/-- A device whose current area tells W, and nothing else. -/
structure FnD (d : DvN) (W : List KwN) : Prop where
  sy : Sy d
  cur : ∃ c gen, c ≤ 1 ∧ gen ≠ 0 ∧ cur2 (scan (d.b 0)) (scan (d.b 1)) = (c, gen) ∧ scan (d.b c) = ⟨gen, true, (d.b c).length, knT W⟩
theorem cur2_one {a : ArN} (b : ArN) (ha : a.whole = true) (hb : b.whole = false) : cur2 a b = (0, a.gen) := by
  unfold cur2 cur1
  rw [if_neg (by rw [hb]; intro q; cases q.1), if_pos ha]
theorem cur2_two {a b : ArN} (ha : a.whole = true) (hb : b.whole = true) (h : a.gen < b.gen) : cur2 a b = (1, b.gen) := by
  unfold cur2 cur1
  rw [if_pos ha, if_pos ⟨hb, h⟩]
/-- The plans laid down. -/
theorem warm_pers {z : List Int} {g0 g : EgN} {d : DvN} {k : Nat} (o : O1 z g0 d) (kp : Kp g0 g) (e : E1 g) (hg : GOK g k) : ((persE dOps g d).1 = 14 ∧ 0 < (g.b 1).length) ∨ ((persE dOps g d).1 = 0 ∧ FnD (persE dOps g d).2.2 (g.b 1)) := by
  have hbk := hg.pu.bk 1 (by decide)
  have hen := knT_en hbk (hg.pay 1 (by decide))
  have har : g.ar = 0 := kp.ar.trans o.ar
  have hgn : g.gn = 1 := kp.gn.trans o.gn
  have hsz : g.sz = (anewT 1 []).length := kp.sz.trans o.sz
  have nil : ∀ x ∈ ([] : List (List UInt8 × List UInt8)), EnOK x := fun x hx => by cases hx
  have s1 : scan [] = ar0 := scW_none _ frst_nil
  unfold persE
  by_cases c1 : (g.b 1).length = 0
  · rw [if_pos c1]
    have hW := List.length_eq_zero_iff.1 c1
    refine .inr ⟨rfl, o.sy, 0, 1, by decide, by decide, ?_, ?_⟩
    · rw [o.d0, o.d1, s1]
      have q := scan_whole 1 [] [] (by decide) (by omega) nil nil
      have e0 : anewT 1 [] ++ entsT [] = anewT 1 [] := List.append_nil _
      rw [e0] at q
      rw [q]
      exact cur2_one _ rfl rfl
    · show scan (d.b 0) = ⟨1, true, (d.b 0).length, knT (g.b 1)⟩
      have q := scan_whole 1 [] [] (by decide) (by omega) nil nil
      have e0 : anewT 1 [] ++ entsT [] = anewT 1 [] := List.append_nil _
      rw [e0] at q
      rw [o.d0, q, hW]
      rfl
  · rw [if_neg c1]
    by_cases c2 : 1500 < g.sz + (entsT (knT (g.b 1))).length
    · rw [if_pos c2]
      have hfr : frE g = anewT 2 (knT (g.b 1)) := by unfold frE; rw [hgn, tog_new e.b0 hbk]
      unfold anewE
      rw [if_neg (by rw [hgn]; omega), hfr]
      by_cases c3 : 1500 < (anewT 2 (knT (g.b 1))).length
      · rw [if_pos c3]
        exact .inl ⟨rfl, by omega⟩
      · rw [if_neg c3, har]
        have ec : dOps.clear d (((1 - 0 : Nat)) : Int) = (0, { d with b := upd d.b 1 [], n := upd d.n 1 0 }) := by
          show dClear d 1 = _
          unfold dClear
          rw [if_neg (by omega), if_neg (by rw [o.sy.tr]; omega), calm_tick o.sy.tr]
          rfl
        rw [ec]
        simp only [if_true]
        have el : layE dOps g { d with b := upd d.b 1 [], n := upd d.n 1 0 } (((1 - 0 : Nat)) : Int) (anewT 2 (knT (g.b 1))) = (0, g, cpB { d with b := upd d.b 1 [], n := upd d.n 1 0 } 1 (anewT 2 (knT (g.b 1)))) := by
          have hl : ((({ d with b := upd d.b 1 [], n := upd d.n 1 0 } : DvN)).b 1).length + (anewT 2 (knT (g.b 1))).length ≤ 1500 := by
            show (upd d.b 1 [] 1).length + _ ≤ _
            rw [upd_at]
            show 0 + _ ≤ _
            omega
          have ha := add_calm (d := { d with b := upd d.b 1 [], n := upd d.n 1 0 }) o.sy.tr (i := 1) (by decide) hl
          have hcp := cp_calm (d := { d with b := upd d.b 1 [], n := upd d.n 1 0 }) o.sy.tr (i := 1) (by decide) hl
          rw [layE_d]
          show (if (dAdd _ ((1 : Nat) : Int) _).1 = 0 then (if (dSync (dAdd _ ((1 : Nat) : Int) _).2 ((1 : Nat) : Int)).1 = 0 then _ else _) else _) = _
          rw [hcp, ha]
          rfl
        rw [el]
        simp only [if_true]
        have hb0 : (cpB { d with b := upd d.b 1 [], n := upd d.n 1 0 } 1 (anewT 2 (knT (g.b 1)))).b 0 = anewT 1 [] := by
          show upd (upd d.b 1 []) 1 (upd d.b 1 [] 1 ++ anewT 2 (knT (g.b 1))) 0 = _
          rw [upd_ne _ _ _ _ (by decide), upd_ne _ _ _ _ (by decide)]; exact o.d0
        have hb1 : (cpB { d with b := upd d.b 1 [], n := upd d.n 1 0 } 1 (anewT 2 (knT (g.b 1)))).b 1 = anewT 2 (knT (g.b 1)) := by
          show upd (upd d.b 1 []) 1 (upd d.b 1 [] 1 ++ _) 1 = _
          rw [upd_at, upd_at]
          rfl
        have q0 : scan (anewT 1 []) = ⟨1, true, (anewT 1 []).length, []⟩ := by
          have q := scan_whole 1 [] [] (by decide) (by omega) nil nil
          have e0 : anewT 1 [] ++ entsT [] = anewT 1 [] := List.append_nil _
          rw [e0] at q
          exact q
        have q1 : scan (anewT 2 (knT (g.b 1))) = ⟨2, true, (anewT 2 (knT (g.b 1))).length, knT (g.b 1)⟩ := by
          have q := scan_whole 2 (knT (g.b 1)) [] (by decide) (by omega) hen nil
          have e0 : anewT 2 (knT (g.b 1)) ++ entsT [] = anewT 2 (knT (g.b 1)) := List.append_nil _
          rw [e0, List.append_nil] at q
          exact q
        refine .inr ⟨trivial, ⟨o.sy.tr, fun i hi => ?_⟩, 1, 2, by decide, by decide, ?_, ?_⟩
        · have : i = 0 ∨ i = 1 := by omega
          rcases this with rfl | rfl
          · rw [hb0]
            show upd (upd d.n 1 0) 1 (upd d.b 1 [] 1 ++ anewT 2 (knT (g.b 1))).length 0 = _
            rw [upd_ne _ _ _ _ (by decide), upd_ne _ _ _ _ (by decide), o.sy.n 0 (by decide), o.d0]
          · rw [hb1]
            show upd (upd d.n 1 0) 1 (upd d.b 1 [] 1 ++ _).length 1 = _
            rw [upd_at, upd_at]
            rfl
        · rw [hb0, hb1, q0, q1]
          exact cur2_two rfl rfl (by show 1 < 2; omega)
        · rw [hb1]
          exact q1
    · rw [if_neg c2, har]
      have hl : (d.b 0).length + (entsT (knT (g.b 1))).length ≤ 1500 := by rw [o.d0, ← hsz]; omega
      have ha := add_calm (d := d) o.sy.tr (i := 0) (by decide) hl
      have hcp := cp_calm (d := d) o.sy.tr (i := 0) (by decide) hl
      have el : layE dOps g d ((0 : Nat) : Int) (entsT (knT (g.b 1))) = (0, g, cpB d 0 (entsT (knT (g.b 1)))) := by
        rw [layE_d, hcp, ha]
        rfl
      rw [el]
      simp only [if_true]
      have hb0 : (cpB d 0 (entsT (knT (g.b 1)))).b 0 = anewT 1 [] ++ entsT (knT (g.b 1)) := by
        show upd d.b 0 (d.b 0 ++ _) 0 = _
        rw [upd_at, o.d0]
      have hb1 : (cpB d 0 (entsT (knT (g.b 1)))).b 1 = [] := by
        show upd d.b 0 (d.b 0 ++ entsT (knT (g.b 1))) 1 = _
        rw [upd_ne _ _ _ _ (by decide)]; exact o.d1
      have q0 := scan_whole 1 [] (knT (g.b 1)) (by decide) (by omega) nil hen
      rw [List.nil_append] at q0
      refine .inr ⟨trivial, ⟨o.sy.tr, fun i hi => ?_⟩, 0, 1, by decide, by decide, ?_, ?_⟩
      · have : i = 0 ∨ i = 1 := by omega
        rcases this with rfl | rfl
        · rw [hb0]
          show upd d.n 0 (d.b 0 ++ _).length 0 = _
          rw [upd_at, o.d0]
        · rw [hb1]
          show upd d.n 0 (d.b 0 ++ entsT (knT (g.b 1))).length 1 = _
          rw [upd_ne _ _ _ _ (by decide), o.sy.n 1 (by decide), o.d1]
      · rw [hb0, hb1, s1, q0]
        exact cur2_one _ rfl rfl
      · rw [hb0]
        exact q0
/-- A start over what was copied: all is known. -/
theorem warm_open {z : List Int} {d : DvN} {W : List KwN} (h : FnD d W) (hW : BkOK W) (keep : Int) (junk : List UInt8) : (openE dOps (newG 1 z) (engD (mvD (dCrash d keep junk)))).1 = 0 ∧ ∃ a n s d', (openE dOps (newG 1 z) (engD (mvD (dCrash d keep junk)))).2 = ({ newG 1 z with ar := a, gn := n, sz := s, b := upd (newG 1 z).b 0 W }, d') := by
  have b0 : (engD (mvD (dCrash d keep junk))).b 0 = d.b 0 := (mvD_b _).1.trans (crash_sync h.sy keep junk 0 (by decide))
  have b1 : (engD (mvD (dCrash d keep junk))).b 1 = d.b 1 := (mvD_b _).2.trans (crash_sync h.sy keep junk 1 (by decide))
  have tr : (engD (mvD (dCrash d keep junk))).tr = 0 := mvI_tr (dCrash d keep junk) 2
  generalize engD (mvD (dCrash d keep junk)) = D at *
  obtain ⟨d', hr⟩ := read_calm2 tr (newG 1 z)
  obtain ⟨c, gen, hc, hgen, hcur, hsc⟩ := h.cur
  unfold openE
  rw [hr]
  simp only [if_true]
  unfold findE
  rw [b0, b1, hcur]
  simp only
  rw [if_neg hgen]
  have hcs : c = 0 ∨ c = 1 := by omega
  rcases hcs with rfl | rfl
  · rw [if_pos rfl, hsc]
    simp only
    rw [if_neg (Nat.lt_irrefl _)]
    refine ⟨rfl, 0, gen, (d.b 0).length, d', ?_⟩
    unfold curE
    rw [bookL_self hW]
  · rw [if_neg (by decide), hsc]
    simp only
    rw [if_neg (Nat.lt_irrefl _)]
    refine ⟨rfl, 1, gen, (d.b 1).length, d', ?_⟩
    unfold curE
    rw [bookL_self hW]
end Go.Proofs.YtmmflekajbeamabGreatDoor

namespace Go.Proofs.YtmmflekajbeamabGreatDoor
open Go.RowKit Go.Maps Go.WideMaps

/-- What the walk of first wants of what comes behind. -/
structure Fw (W : World) (R0 : Int × EgN × DvN) (R1 : EgN × Nat) (R2 R3 : Int × EgN × DvN) (R4 : EgN × Nat) : Prop where
  fs : Fst R0 R1 R2 R3 R4
  run : ∀ {B X E XD D m v vs w}, Ec W.heap.size B X E XD D R0.2.1 R0.2.2 m v vs 1500 w → W.heap.size ≤ w.heap.size → Tab w → Calls Tryz.prog 18 #[.pointer (some ⟨X, 0, none⟩), .int .i64 9] w fun e' w' => e' = .returned (.tuple #[.int .i64 (R1.2 : Int), .int .i64 0]) ∧ ∃ m' v', Ec W.heap.size B X E XD D R1.1 R0.2.2 m' v' vs 9504 w' ∧ Below W.heap.size w w' ∧ w'.heap[B]? = w.heap[B]?
  pers : ∀ {B X E XD D m v vs w}, Ec W.heap.size B X E XD D R1.1 R0.2.2 m v vs 9504 w → W.heap.size ≤ w.heap.size → Tab w → Calls Tryz.prog 16 #[.pointer (some ⟨X, 0, none⟩)] w fun e' w' => e' = .returned (.int .i64 R2.1) ∧ ∃ m' v' vs', Ec W.heap.size B X E XD D R2.2.1 R2.2.2 m' v' vs' 9504 w' ∧ Below W.heap.size w w' ∧ w'.heap[B]? = w.heap[B]?
  start : ∀ {B X E XD D m v vs w}, Ec W.heap.size B X E XD D R2.2.1 R2.2.2 m v vs 9504 w → W.heap.size ≤ w.heap.size → Tab w → Calls Tryz.prog 20 #[.pointer (some ⟨XD, 0, none⟩), .agg (S fsZ)] w fun e' w' => ∃ X' E' m' v' vs', e' = .returned (.tuple #[.pointer (some ⟨X', 0, none⟩), .int .i64 0]) ∧ Ec W.heap.size B X' E' XD D R3.2.1 R3.2.2 m' v' vs' 1500 w' ∧ Below W.heap.size w w'
  run2 : ∀ {B X E XD D m v vs w}, Ec W.heap.size B X E XD D R3.2.1 R3.2.2 m v vs 1500 w → W.heap.size ≤ w.heap.size → Tab w → Calls Tryz.prog 18 #[.pointer (some ⟨X, 0, none⟩), .int .i64 9] w fun e' w' => e' = .returned (.tuple #[.int .i64 (R4.2 : Int), .int .i64 0]) ∧ ∃ m' v', Ec W.heap.size B X E XD D R4.1 R3.2.2 m' v' vs 9504 w' ∧ Below W.heap.size w w' ∧ w'.heap[B]? = w.heap[B]?
  zl : R4.1.z.length = 138
theorem fw_all (W : World) : Fw W (op0 fsZ) fs1 fs2 fs3 fs4 := by
  have F := fst_all
  have hw : wrap64 (fs2.2.2.wk + 1) = 2 := by rw [F.w2]; unfold wrap64; omega
  have e1 : runE (op0 fsZ).2.1 9 = fs1 := by unfold fs1; rfl
  have e2 : persE dOps fs1.1 (op0 fsZ).2.2 = fs2 := by unfold fs2; rfl
  have e3 : openE dOps (newG 2 fsZ) (engD fs2.2.2) = fs3 := by unfold fs3; rfl
  have e4 : runE fs3.2.1 9 = fs4 := by unfold fs4; rfl
  have hzl : fs4.1.z.length = 138 := by decide +kernel
  generalize fs4 = R4 at *
  generalize fs3 = R3 at *
  generalize fs2 = R2 at *
  generalize fs1 = R1 at *
  generalize op0 fsZ = R0 at *
  refine ⟨F, fun h hN ht => ?_, fun h hN ht => ?_, fun h hN ht => ?_, fun h hN ht => ?_, hzl⟩
  · have q := h.run hN ht (by omega) 9 (by omega) F.o1
    rw [e1] at q
    exact q
  · have q := h.persist hN ht (by omega) F.o2
    rw [e2] at q
    exact q
  · have q := h.start hN ht fsZ_ok (by rw [hw, e3]; exact F.s3)
    rw [hw, e3] at q
    exact q
  · have q := h.run hN ht (by omega) 9 (by omega) F.o3
    rw [e4] at q
    exact q
set_option maxRecDepth 100000 in
set_option maxHeartbeats 8000000 in
theorem first_any (w : World) (ht : Tab w) : Calls Tryz.prog 6 #[] w fun e' w' => e' = .returned (.bool true) ∧ Below w.heap.size w w' := by
  have zz := zero34
  obtain ⟨V, hV⟩ : ∃ V, V = w.alloc (.cells (S zeroZ) 25) := ⟨_, rfl⟩
  have rV : RowI V w.heap.size 25 zeroZ := by unfold RowI; rw [hV, _root_.Go.heap_alloc_new]
  have cs : V.cell? ⟨w.heap.size, 8, none⟩ = some (.int .i64 0) := cell_row rV 8
  have cf : V.frozen? ⟨w.heap.size, 8, none⟩ = false := by unfold World.frozen?; rw [rV]; simp
  obtain ⟨W, hW⟩ : ∃ W, W = V.setCell ⟨w.heap.size, 8, none⟩ (.int .i64 17825799) := ⟨_, rfl⟩
  have rW : RowI W w.heap.size 25 fsZ := by rw [hW]; exact rV.set 8 17825799
  have hbW : Below w.heap.size w W := by rw [hW, hV]; exact ((Below.refl _ _).alloc (Nat.le_refl _) _).setCell (p := ⟨w.heap.size, 8, none⟩) (Nat.le_refl _) _
  have HV := hide hV; have HW := hide hW; have HRW := hide rW; have HBW := hide hbW
  have HT : Hid (∀ w', Below W.heap.size W w' → Tab w') := fun w' hb => (ht.below ht.pos hbW).below (Nat.lt_of_lt_of_le ht.pos hbW.size) hb
  have hzl : fsZ.length = 138 := rfl
  have szl := zlen fsZ hzl
  have gW := range_row rW 0 138 (by omega)
  rw [List.drop_zero, List.take_of_length_le (by omega)] at gW
  have HBe := hide (bench_any fsZ W fsZ_ok (ht.below ht.pos hbW))
  have hWl : w.heap.size < W.heap.size := rW.lt
  have HWl := hide hWl
  have HF := hide (fw_all W)
  obtain ⟨R0, hR0⟩ : ∃ R, R = op0 fsZ := ⟨_, rfl⟩
  obtain ⟨R1, hR1⟩ : ∃ R, R = fs1 := ⟨_, rfl⟩
  obtain ⟨R2, hR2⟩ : ∃ R, R = fs2 := ⟨_, rfl⟩
  obtain ⟨R3, hR3⟩ : ∃ R, R = fs3 := ⟨_, rfl⟩
  obtain ⟨R4, hR4⟩ : ∃ R, R = fs4 := ⟨_, rfl⟩
  rw [← hR0] at HBe HF
  rw [← hR1, ← hR2, ← hR3, ← hR4] at HF
  obtain ⟨Z, hZ⟩ : ∃ Z, Z = fsZ := ⟨_, rfl⟩
  have HSt : Hid (∀ {B X E XD D m v vs w}, Ec W.heap.size B X E XD D R2.2.1 R2.2.2 m v vs 9504 w → W.heap.size ≤ w.heap.size → Tab w → Calls Tryz.prog 20 #[.pointer (some ⟨XD, 0, none⟩), .agg (S Z)] w fun e' w' => ∃ X' E' m' v' vs', e' = .returned (.tuple #[.pointer (some ⟨X', 0, none⟩), .int .i64 0]) ∧ Ec W.heap.size B X' E' XD D R3.2.1 R3.2.2 m' v' vs' 1500 w' ∧ Below W.heap.size w w') := by
    unfold Hid
    rw [hZ]
    exact HF.out.start
  rw [← hZ] at HBe gW hzl szl
  clear hR0 hR1 hR2 hR3 hR4 hZ ht hV hW rV rW hbW
  go_enter Tryz.func6, Tryz.ntmps6
  go_upto_region 2 with fail
  rw [← HV.out]
  go_upto_region 3 with fail
  rw [← HW.out]
  clear cs cf
  go_wp2_with (refine wpList_load_midZ rfl 25 _ rfl w.heap.size 0 rfl Z _ gW Tryz.underlying25 rfl szl ?_)
  refine (unhide HBe).mono ?_
  rintro e w1 ⟨B, rfl, b, en, hbn, hb1, hbz, hbd, heg, _⟩
  have hec := hbn.ec
  rw [hbd, heg] at hec
  have k1 := (hbn.2.2 en rfl).c1
  have k0 := hbn.1.c0
  have hz1 := hb1.size
  have HC := hide (HF.out.run hec hz1 (HT.out w1 hb1))
  rw [HF.out.fs.n1] at HC
  have HB1 := hide hb1; have HK0 := hide k0; have HK1 := hide k1
  have HBl := hide hbn.1.lt
  clear hbn hec hbd heg hbz hb1 k0 HBe
  go_wp2_with fail
  refine (unhide HC).mono ?_
  rintro e w2 ⟨rfl, m2, v2, h2, hb2, hB2⟩
  have k1 := (World.cell?_of_block (a := ⟨B, 1, none⟩) hB2).trans HK1.out
  have hz2 := hb2.size
  have HB2 : Hid (Below W.heap.size W w2) := HB1.out.trans hb2
  have HC2 := hide (HF.out.pers h2 (Nat.le_trans hz1 hz2) (HT.out w2 HB2.out))
  rw [HF.out.fs.p2] at HC2
  have HBB2 := hide hB2
  clear h2 hb2 hB2 HC
  go_wp2_with fail
  refine (unhide HC2).mono ?_
  rintro e w3 ⟨rfl, m3, v3, vs3, h3, hb3, hB3⟩
  have k1 := (World.cell?_of_block (a := ⟨B, 1, none⟩) (hB3.trans HBB2.out)).trans HK1.out
  have hz3 := hb3.size
  have HB3 : Hid (Below W.heap.size W w3) := HB2.out.trans hb3
  have HC3 := hide (h3.known (by omega))
  rw [HF.out.fs.k2] at HC3
  have H3 := hide h3
  have HBB3 : Hid (w3.heap[B]? = w1.heap[B]?) := hB3.trans HBB2.out
  clear h3 hb3 hB3 HC2
  go_wp2_with fail
  refine (unhide HC3).mono ?_
  rintro e w4 ⟨u, rfl, hu, hb4⟩
  obtain ⟨ua, uc, hul⟩ := owns_len hu
  subst hul
  have hz4 := hb4.size
  have hN3 : W.heap.size ≤ w3.heap.size := HB3.out.size
  have HB4 : Hid (Below W.heap.size W w4) := HB3.out.trans (hb4.mono hN3)
  have h4 := H3.out.up hN3 hb4
  have hBw3 : B < w3.heap.size := (H3.out.kp B (.inr (.inr rfl))).1
  have k0 : w4.cell? ⟨B, 0, none⟩ = some (.pointer (some ⟨b.X, 0, none⟩)) := (World.cell?_of_block ((hb4.block B hBw3).trans HBB3.out)).trans HK0.out
  have r4 : w4.rangeAt w.heap.size 0 (Z.map (Value.int .i64)) := fun j x q => (World.cell?_of_block (HB4.out.block _ HWl.out)).trans (gW j x q)
  have h4d : Ec W.heap.size B en.X en.E b.X b.D R2.2.1 R2.2.2 m3 v3 vs3 9504 w4.drew := h4.up (by omega) (Below.refl _ w4).drew
  have HC4 := hide (HSt.out h4d (by show W.heap.size ≤ w4.heap.size; omega) (HT.out w4.drew HB4.out.drew))
  clear hu hb4 h4 h4d HC3 H3
  go_upto_region 9 with fail
  refine held_pick3 6 [0, 1, 2, 3, 4] [5] 5 6 (fun w' => w'.cell? ⟨B, 0, none⟩ = some (.pointer (some ⟨b.X, 0, none⟩)) ∧ Hid (w'.rangeAt w.heap.size 0 (Z.map (Value.int .i64)))) (by kernel_rfl) (by kernel_rfl) (fun d _ _ _ _ h => by cases d <;> exact h) ⟨k0, r4⟩ ?_
  iterate 4
    refine wpTakeI_step ?_ rfl rfl ?_ ?_
    rotate_left
    · rintro w' ⟨q0, q1⟩
      go_simp
      rfl
    go_simp
  refine ⟨_, .agg (S Z), rfl, yieldsIf_load_mid rfl 25 _ rfl w.heap.size 0 rfl (Z.map (Value.int .i64)) _ (fun w' hS => hS.2.out) Tryz.underlying25 rfl szl, ?_⟩
  go_simp
  refine wpTakeI_nil ?_
  refine wpTailJ_step rfl rfl (fun K hK => ?_)
  go_simp
  refine (unhide HC4).mono ?_
  rintro e w5 ⟨X5, E5, m5, v5, vs5, rfl, h5, hb5⟩
  have hz5 := hb5.size
  have hz5' : w4.heap.size ≤ w5.heap.size := hz5
  have HB5 : Hid (Below W.heap.size W w5) := (HB4.out.drew).trans hb5
  have HC5 := hide (HF.out.run2 h5 (by omega) (HT.out w5 HB5.out))
  rw [HF.out.fs.n4] at HC5
  clear h5 hb5 HC4 k0 r4
  go_simp
  refine hK _ _ (fun h => absurd h (by decide)) ?_
  clear hK K
  refine wpTailJ_nil ?_
  repeat still_step
  refine wpStill_nil ?_
  go_wp2_with fail
  refine (unhide HC5).mono ?_
  rintro e w6 ⟨rfl, m6, v6, h6, hb6, _⟩
  have hz6 := hb6.size
  have HB6 : Hid (Below W.heap.size W w6) := HB5.out.trans hb6
  have HC6 := hide (cCounts_any X5 E5 b.D R4.1 m6 v6 w6 h6.x h6.ed.eg)
  rw [HF.out.fs.c1, HF.out.fs.c3] at HC6
  have H6 := hide h6
  generalize R4.1.c 0 = C0 at *
  generalize R4.1.c 2 = C2 at *
  generalize (R4.1.b 1).length = C4 at *
  clear h6 hb6 HC5
  go_wp2_with fail
  refine (unhide HC6).mono ?_
  rintro e w7 ⟨rfl, hb7⟩
  have hz7 := hb7.size
  obtain ⟨W8, hW8⟩ : ∃ W8, W8 = w7.alloc (.cells #[.int .i64 (C0 : Int), .int .i64 1, .int .i64 (C2 : Int), .int .i64 0, .int .i64 (C4 : Int)] 45) := ⟨_, rfl⟩
  have hb8 : Below w6.heap.size w6 W8 := by rw [hW8]; exact hb7.alloc hz7 _
  have r8 : W8.heap[w7.heap.size]? = some (.cells #[.int .i64 (C0 : Int), .int .i64 1, .int .i64 (C2 : Int), .int .i64 0, .int .i64 (C4 : Int)] 45 (0, 0)) := by rw [hW8, _root_.Go.heap_alloc_new]
  have hN6 : W.heap.size ≤ w6.heap.size := HB6.out.size
  have h8 := H6.out.up hN6 hb8
  have HC8 := hide (cState_any X5 E5 b.D R4.1 m6 v6 W8 h8.x h8.ed.eg)
  have HW8 := hide hW8; have HR8 := hide r8; have HB8 := hide hb8
  have hs8 : w7.heap.size < W8.heap.size := (Array.getElem?_eq_some_iff.1 r8).1
  have hz4l : R4.1.z.length = 138 := HF.out.zl
  have hr1 := HF.out.fs.r1
  have hst := HF.out.fs.st
  generalize R4.1.z = Z4 at *
  clear hb7 hW8 hb8 r8 h8 HC6
  go_upto_region 14 with fail
  rw [← HW8.out]
  go_wp2_with fail
  refine (unhide HC8).mono ?_
  rintro e w9 ⟨rfl, hb9⟩
  have hz9 := hb9.size
  obtain ⟨W10, hW10⟩ : ∃ W10, W10 = w9.alloc (.cells (S Z4) 25) := ⟨_, rfl⟩
  have hb10 : Below W8.heap.size W8 W10 := by rw [hW10]; exact hb9.alloc hz9 _
  have r10 : RowI W10 w9.heap.size 25 Z4 := by unfold RowI; rw [hW10, _root_.Go.heap_alloc_new]
  have q1 : W10.cell? ⟨w7.heap.size, 1, none⟩ = some (.int .i64 1) := (World.cell?_of_block (hb10.block _ hs8)).trans (cell_row HR8.out 1)
  have q3 : W10.cell? ⟨w7.heap.size, 3, none⟩ = some (.int .i64 0) := (World.cell?_of_block (hb10.block _ hs8)).trans (cell_row HR8.out 3)
  have p1 := r10.cell 1 (by omega)
  have p7 := r10.cell 137 (by omega)
  rw [hr1] at p1
  rw [hst] at p7
  have HFin : Hid (Below w.heap.size w W10) := (HBW.out.trans (HB6.out.mono (Nat.le_of_lt HWl.out))).trans (((HB8.out.mono (Nat.le_of_lt (Nat.lt_of_lt_of_le HWl.out hN6))).trans (hb10.mono (by have := HB8.out.size; have := HWl.out; omega))))
  have HW10 := hide hW10
  clear hb9 hW10 hb10 r10 hr1 hst HC8
  go_upto_region 15 with (refine wpList_store_S rfl _ _ rfl w9.heap.size rfl Z4 rfl hz4l (by rw [isRowB_alloc_at _ _ _ _ _ rfl]; simp [S_size, zeroZ]) _ (setRow_alloc_at _ _ _ _ _ rfl) ?_)
  rw [← HW10.out]
  go_wp2_with fail
  go_ret
  exact ⟨rfl, HFin.out⟩
end Go.Proofs.YtmmflekajbeamabGreatDoor

namespace Go.Proofs.YtmmflekajbeamabGreatDoor
open Go.RowKit Go.Maps Go.WideMaps

/-- Numbers that came in, as they lie. -/
structure PiAt (v : Value) (xs : List Int) (w : World) : Prop where
  form : ∃ a c, v = .slice a xs.length c
  at' : ∀ (i : Nat) (x : Int), xs[i]? = some x → ∃ g o c, v = .slice (some ⟨g, o, none⟩) xs.length c ∧ g < w.heap.size ∧ w.cell? ⟨g, o + i, none⟩ = some (.int .i64 x) ∧ -9223372036854775808 ≤ x ∧ x ≤ 9223372036854775807
theorem PiAt.up {v : Value} {xs : List Int} {w w' : World} (h : PiAt v xs w) (hb : Below w.heap.size w w') : PiAt v xs w' := by
  refine ⟨h.form, fun i x hx => ?_⟩
  obtain ⟨g, o, c, e, hg, hc, hb1⟩ := h.at' i x hx
  exact ⟨g, o, c, e, Nat.lt_of_lt_of_le hg hb.size, (World.cell?_of_block (hb.block g hg)).trans hc, hb1⟩
/-- How long each piece is. -/
def pcs (xs : List Int) : List Nat := xs.map fun x => (pickI x 400).toNat
theorem pcs_le {xs : List Int} : ∀ n ∈ pcs xs, n ≤ 2000 := fun n hn => by
  obtain ⟨x, _, rfl⟩ := List.mem_map.1 hn
  have := pickI_bd x 400 (by decide)
  omega
theorem pcs_at {xs : List Int} {j : Nat} {x : Int} (h : xs[j]? = some x) : (pcs xs)[j]? = some (pickI x 400).toNat := by
  unfold pcs
  rw [List.getElem?_map, h]
  rfl
theorem runsE_take {g : EgN} {ns : List Nat} {j n : Nat} (h : ns[j]? = some n) : runsE g (ns.take (j + 1)) = (runE (runsE g (ns.take j)) n).1 := by
  have hj := (List.getElem?_eq_some_iff.1 h).1
  have e : ns.take (j + 1) = ns.take j ++ [n] := by
    rw [List.take_add_one, h]
    rfl
  rw [e]
  unfold runsE
  rw [List.foldl_append]
  rfl
/-- The bench behind j pieces, from the world w0 and the engine g0 on. -/
structure WI (N B : Nat) (b : Bn) (e : En) (m : Nat) (g0 : EgN) (ns : List Nat) (w0 : World) (j : Nat) (w : World) : Prop where
  at' : ∃ m1 v1, BnAt N B { b with z := (runsE g0 (ns.take j)).z } (some { e with g := runsE g0 (ns.take j), m := m1, v := v1 }) m (1500 + 8004 * j) w ∧ FrB B b (some e) { b with z := (runsE g0 (ns.take j)).z } (some { e with g := runsE g0 (ns.take j), m := m1, v := v1 }) w0 w
theorem WI.step {N B : Nat} {b : Bn} {e : En} {m : Nat} {g0 : EgN} {ns : List Nat} {w0 : World} {j n : Nat} {w : World} (h : WI N B b e m g0 ns w0 j w) (hn : ns[j]? = some n) (hl : ∀ n ∈ ns, n ≤ 2000) (hj : j ≤ 2000000) (h0 : 0 < N) (hN : N ≤ w0.heap.size) (ht : Tab w) (hwk : b.d.wk = g0.wk) (hfl : g0.fl = false) :
    Calls Tryz.prog 13 #[.pointer (some ⟨B, 0, none⟩), .int .i64 (n : Int)] w fun e' w' => e' = .returned (.bool true) ∧ WI N B b e m g0 ns w0 (j + 1) w' := by
  obtain ⟨m1, v1, a, f⟩ := h.at'
  have kp := runsE_kp (ns.take j) g0
  have ho : overE (runsE g0 (ns.take j)) b.d.wk = false := by
    unfold overE
    rw [kp.fl, kp.wk, hfl, hwk]
    simp
  have hNw : N ≤ w.heap.size := Nat.le_trans hN f.chg.size
  refine (runs_ok a hNw h0 ht (by omega) n (hl n (List.mem_of_getElem? hn)) ho).mono ?_
  rintro e' w' ⟨rfl, m2, v2, a2, f2⟩
  refine ⟨rfl, ⟨m2, v2, ?_, ?_⟩⟩
  · rw [runsE_take hn]
    exact a2.more (Nat.le_refl _) (by omega)
  · rw [runsE_take hn]
    exact f.trans f2
end Go.Proofs.YtmmflekajbeamabGreatDoor

namespace Go.Proofs.YtmmflekajbeamabGreatDoor
open Go.RowKit Go.Maps Go.WideMaps

/-- A block that is none of the bench's stays as it is. -/
theorem FrB.keep {B : Nat} {b b' : Bn} {oe oe' : Option En} {w w' : World} (h : FrB B b oe b' oe' w w') {x : Nat} (hx : x < w.heap.size) (hn : ¬ ownB B b oe x) : w'.heap[x]? = w.heap[x]? ∧ x < w'.heap.size ∧ ¬ ownB B b' oe' x :=
  ⟨h.chg.other x hx hn, Nat.lt_of_lt_of_le hx h.chg.size, fun q => (h.new x q).elim hn (fun c => by omega)⟩
theorem BnAt.own_lt {N B : Nat} {b : Bn} {oe : Option En} {m k : Nat} {w : World} (h : BnAt N B b oe m k w) {x : Nat} (hx : ownB B b oe x) : x < w.heap.size := by
  rcases hx with rfl | q | ⟨e, he, q⟩
  · exact h.1.lt
  · exact h.1.has q
  · exact (h.2.2 e he).has q
/-- The bench behind all pieces, what it has counted, the block of x. -/
theorem WI.done {N B : Nat} {b : Bn} {e : En} {m : Nat} {g0 : EgN} {ns : List Nat} {w0 w : World} (h : WI N B b e m g0 ns w0 ns.length w) : ∃ m1 v1, BnAt N B { b with z := (runsE g0 ns).z } (some { e with g := runsE g0 ns, m := m1, v := v1 }) m (1500 + 8004 * ns.length) w ∧ FrB B b (some e) { b with z := (runsE g0 ns).z } (some { e with g := runsE g0 ns, m := m1, v := v1 }) w0 w := by
  obtain ⟨m1, v1, a, f⟩ := h.at'
  rw [List.take_length] at a f
  exact ⟨m1, v1, a, f⟩
theorem WI.start {N B : Nat} {b : Bn} {e : En} {m k : Nat} {ns : List Nat} {w : World} (h : BnAt N B b (some e) m k w) (hk : k ≤ 1500) : WI N B b e m e.g ns w 0 w := by
  have hz : e.g.z = b.z := (h.2.2 e rfl).z
  have e1 : runsE e.g (ns.take 0) = e.g := rfl
  refine ⟨e.m, e.v, ?_, ?_⟩
  · rw [e1, hz]
    exact h.more (Nat.le_refl _) (by omega)
  · rw [e1, hz]
    exact FrB.refl B b (some e) w
/-- Persist of the bench's engine that is not over. -/
theorem ldB_pers {b : Bn} {g : EgN} (h : overE g b.d.wk = false) : ldB b g false = persE dOps g b.d := by
  unfold ldB
  rw [if_neg (by rw [h]; decide), if_neg (by decide)]
/-- What the second half finds: the machine as at the start, all known. -/
theorem warm_second {b : Bn} {g0 g2 : EgN} {W : List KwN} {a n s : Nat} (hz : g0.z = b.z) (hb2 : g0.b 2 = []) (hc0 : g0.c 0 = 0) (hc3 : g0.c 3 = 0) (hg : g2 = { newG 1 b.z with ar := a, gn := n, sz := s, b := upd (newG 1 b.z).b 0 W }) : E2 W g0 g2 ∧ g2.fl = false ∧ g2.wk = 1 := by
  subst hg
  refine ⟨⟨hz.symm, (show upd (newG 1 b.z).b 0 W 0 = W from upd_at _ _ _), ?_, ?_, hc0.symm, hc3.symm, rfl, rfl⟩, rfl, rfl⟩
  · show upd (newG 1 b.z).b 0 W 1 = []
    rw [upd_ne _ _ _ _ (by decide)]
    rfl
  · show upd (newG 1 b.z).b 0 W 2 = g0.b 2
    rw [upd_ne _ _ _ _ (by decide), hb2]
    rfl
end Go.Proofs.YtmmflekajbeamabGreatDoor

namespace Go.Proofs.YtmmflekajbeamabGreatDoor
open Go.RowKit Go.Maps Go.WideMaps

theorem fit_run {z : List Int} (hz : z.length = 138) : RunOK (fitZ z) := by
  obtain ⟨regs, mem, pc, e, hr, hm, hp⟩ := fitZ_form hz
  rw [e]
  exact ⟨mkZ_len hr.1 hm.1, mkZ_stB hr hm (by omega) (by omega) (by decide) (by decide)⟩
end Go.Proofs.YtmmflekajbeamabGreatDoor
