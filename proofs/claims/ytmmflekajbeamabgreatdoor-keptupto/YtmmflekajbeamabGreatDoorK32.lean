/-
  Faithful, Kept, Warm: a small program runs, its plan is laid down and served (first).
  Faithful, Kept, Warm: the small program, walked (first).
  Faithful, Kept: a script of steps in memory; a state made right runs.
  The table of instructions, as the card's condition tells it, is the table that the walks read; and the program's own start-up meets that condition. Shared by the cards.
  A script that came in: its steps as they lie in memory.
  A script of steps that came in, as it lies in memory.
  Frames: the sum of a text with one byte another; a frame that was told is read back, a spoilt one is not.
-/
import Derived.Test.YtmmflekajbeamabGreatDoorK31
import Derived.Test.YtmmflekajbeamabGreatDoorK14
import Derived.Test.YtmmflekajbeamabGreatDoorK02
import Derived.Test.YtmmflekajbeamabGreatDoorCards
import Derived.Test.YtmmflekajbeamabGreatDoorTie
import Derived.ProofKit
import Derived.LaidMore
import Derived.OpenShut
import Derived.Stop.Joined
import Derived.Deep.Strs
import Derived.SevenTiedAt
import Derived.ChangeMaps5
import Derived.Test.YtmmflekajbeamabGreatDoorK16
import Derived.Deep.Slices
import Derived.Test.YtmmflekajbeamabGreatDoorK15
namespace Go.Proofs.YtmmflekajbeamabGreatDoor
open Go.RowKit Go.Maps Go.WideMaps

def fsZ : List Int := zeroZ.set 8 17825799
def fs1 : EgN × Nat := runE (op0 fsZ).2.1 9
def fs2 : Int × EgN × DvN := persE dOps fs1.1 (op0 fsZ).2.2
def fs3 : Int × EgN × DvN := openE dOps (newG 2 fsZ) (engD fs2.2.2)
def fs4 : EgN × Nat := runE fs3.2.1 9
/-- What the small program comes to. -/
structure Fst (R0 : Int × EgN × DvN) (R1 : EgN × Nat) (R2 R3 : Int × EgN × DvN) (R4 : EgN × Nat) : Prop where
  o1 : overE R0.2.1 R0.2.2.wk = false
  n1 : R1.2 = 2
  o2 : overE R1.1 R0.2.2.wk = false
  p2 : R2.1 = 0
  k2 : (knT (R2.2.1.b 0)).length = 1
  w2 : R2.2.2.wk = 1
  s3 : R3.1 = 0
  o3 : overE R3.2.1 R3.2.2.wk = false
  n4 : R4.2 = 2
  c1 : R4.1.c 1 = 1
  c3 : R4.1.c 3 = 0
  r1 : gz R4.1.z 1 = 7
  st : gz R4.1.z 137 = 1
theorem fst_all : Fst (op0 fsZ) fs1 fs2 fs3 fs4 := ⟨by decide +kernel, by decide +kernel, by decide +kernel, by decide +kernel, by decide +kernel, by decide +kernel, by decide +kernel, by decide +kernel, by decide +kernel, by decide +kernel, by decide +kernel, by decide +kernel, by decide +kernel⟩
theorem fsZ_ok : RunOK fsZ := ⟨rfl, by decide +kernel⟩
/-- An engine and its device, with the boxes that stand for them. -/
structure Ec (N B X E XD D : Nat) (g : EgN) (d : DvN) (m v vs : Nat → Value) (k : Nat) (w : World) : Prop where
  x : XAt X E w
  xd : XAt XD D w
  ed : EdAt E D g d m v vs w
  ok : GOK g k
  kp : ∀ y, y = X ∨ y = XD ∨ y = B → y < w.heap.size ∧ ¬ (eHas E m v y ∨ dHas D vs y)
  ge : ∀ y, eHas E m v y ∨ dHas D vs y → N ≤ y
theorem Ec.step {N B X E XD D : Nat} {g g' : EgN} {d d' : DvN} {m v vs m' v' vs' : Nat → Value} {k k' : Nat} {w w' : World} (h : Ec N B X E XD D g d m v vs k w) (hN : N ≤ w.heap.size) (a : EdAt E D g' d' m' v' vs' w') (f : EdFr E D m v vs m' v' vs' w w') (ok : GOK g' k') : Ec N B X E XD D g' d' m' v' vs' k' w' ∧ Below N w w' ∧ w'.heap[B]? = w.heap[B]? := by
  have hk : ∀ y, y = X ∨ y = XD ∨ y = B → w'.heap[y]? = w.heap[y]? := fun y q => f.chg.other y (h.kp y q).1 (h.kp y q).2
  refine ⟨⟨(World.cell?_of_block (hk X (.inl rfl))).trans h.x, (World.cell?_of_block (hk XD (.inr (.inl rfl)))).trans h.xd, a, ok, fun y q => ⟨Nat.lt_of_lt_of_le (h.kp y q).1 f.chg.size, fun c => ?_⟩, fun y c => ?_⟩, f.chg.below hN (fun y q => h.ge y q), hk B (.inr (.inr rfl))⟩
  · rcases c with c | c
    · rcases f.eo y c with e | e
      · exact (h.kp y q).2 (.inl e)
      · have := (h.kp y q).1; omega
    · rcases f.vo y c with e | e
      · exact (h.kp y q).2 (.inr e)
      · have := (h.kp y q).1; omega
  · rcases c with c | c
    · rcases f.eo y c with e | e
      · exact h.ge y (.inl e)
      · omega
    · rcases f.vo y c with e | e
      · exact h.ge y (.inr e)
      · omega
theorem Ec.up {N B X E XD D : Nat} {g : EgN} {d : DvN} {m v vs : Nat → Value} {k : Nat} {w w' : World} (h : Ec N B X E XD D g d m v vs k w) (hN : N ≤ w.heap.size) (hb : Below w.heap.size w w') : Ec N B X E XD D g d m v vs k w' := (h.step hN (h.ed.up hb) (EdFr.of_below hb) h.ok).1
theorem BnAt.ec {N B : Nat} {b : Bn} {e : En} {m k : Nat} {w : World} (h : BnAt N B b (some e) m k w) : Ec N B e.X e.E b.X b.D e.g b.d e.m e.v b.vs k w := by
  have hE := h.2.2 e rfl
  refine ⟨hE.x, h.1.x, h.ed, hE.ok, fun y q => ?_, fun y q => ?_⟩
  · rcases q with rfl | rfl | rfl
    · exact ⟨hE.xlt, fun c => c.elim hE.nX (fun c => hE.sp _ (.inl rfl) (.inr c))⟩
    · exact ⟨h.1.xlt, fun c => c.elim (fun c => hE.sp _ (.inr c) (.inl rfl)) h.1.nX⟩
    · exact ⟨h.1.lt, fun c => c.elim (fun c => hE.nB (.inr c)) (fun c => h.1.nB (.inr c))⟩
  · rcases q with q | q
    · exact hE.ge y (.inr q)
    · exact h.1.ge.2 y (.inr q)
theorem Ec.run {N B X E XD D : Nat} {g : EgN} {d : DvN} {m v vs : Nat → Value} {k : Nat} {w : World} (h : Ec N B X E XD D g d m v vs k w) (hN : N ≤ w.heap.size) (ht : Tab w) (hk : k ≤ 99999900000) (n : Nat) (hn : n ≤ 2000) (ho : overE g d.wk = false) :
    Calls Tryz.prog 18 #[.pointer (some ⟨X, 0, none⟩), .int .i64 (n : Int)] w fun e' w' => e' = .returned (.tuple #[.int .i64 ((runE g n).2 : Int), .int .i64 0]) ∧ ∃ m' v', Ec N B X E XD D (runE g n).1 d m' v' vs (k + 8004) w' ∧ Below N w w' ∧ w'.heap[B]? = w.heap[B]? := by
  refine cRun_of X E n w h.x _ (fun e' w' q => ⟨_, _, q.1⟩) ?_
  refine (eRun_ok E D g d m v vs n w k h.ed ht ho hn h.ok.run hk).mono ?_
  rintro e' w1 ⟨rfl, m1, v1, a, c, o⟩
  obtain ⟨a1, f⟩ := h.ed.egs a c o
  exact ⟨rfl, m1, v1, h.step hN a1 f ((h.ok.runE n).1.more (by omega))⟩
theorem Ec.persist {N B X E XD D : Nat} {g : EgN} {d : DvN} {m v vs : Nat → Value} {k : Nat} {w : World} (h : Ec N B X E XD D g d m v vs k w) (hN : N ≤ w.heap.size) (ht : Tab w) (hk : k ≤ 99999900000) (ho : overE g d.wk = false) :
    Calls Tryz.prog 16 #[.pointer (some ⟨X, 0, none⟩)] w fun e' w' => e' = .returned (.int .i64 (persE dOps g d).1) ∧ ∃ m' v' vs', Ec N B X E XD D (persE dOps g d).2.1 (persE dOps g d).2.2 m' v' vs' k w' ∧ Below N w w' ∧ w'.heap[B]? = w.heap[B]? := by
  refine cPersist_of X E w h.x _ (fun e' w' q => ⟨_, q.1⟩) ?_
  refine (ePersist_any E D g d m v vs w h.ed ht (h.ok.eg (by omega)) h.ok.sz ho).mono ?_
  rintro e' w1 ⟨rfl, m1, v1, vs1, a, f⟩
  exact ⟨rfl, m1, v1, vs1, h.step hN a f (h.ok.pers d)⟩
theorem Ec.known {N B X E XD D : Nat} {g : EgN} {d : DvN} {m v vs : Nat → Value} {k : Nat} {w : World} (h : Ec N B X E XD D g d m v vs k w) (hk : k ≤ 99999900000) :
    Calls Tryz.prog 19 #[.pointer (some ⟨X, 0, none⟩)] w fun e' w' => ∃ u, e' = .returned u ∧ w'.ownsRow w.heap.size 71 2 u (knT (g.b 0)).length (knCs (knT (g.b 0))) ∧ Below w.heap.size w w' := by
  refine cKnown_of X E w h.x _ (fun e' w' q => by obtain ⟨u, q, _⟩ := q; exact ⟨u, q⟩) ?_
  exact eKnown_any E D g m v w h.ed.eg (by have := h.ok.sm; omega)
/-- A start over the device that an engine works over already. -/
theorem Ec.start {N B X E XD D : Nat} {g : EgN} {d : DvN} {m v vs : Nat → Value} {k : Nat} {w : World} (h : Ec N B X E XD D g d m v vs k w) (hN : N ≤ w.heap.size) (ht : Tab w) {z : List Int} (hz : RunOK z) (ho : (openE dOps (newG (wrap64 (d.wk + 1)) z) (engD d)).1 = 0) :
    Calls Tryz.prog 20 #[.pointer (some ⟨XD, 0, none⟩), .agg (S z)] w fun e' w' => ∃ X' E' m' v' vs', e' = .returned (.tuple #[.pointer (some ⟨X', 0, none⟩), .int .i64 0]) ∧ Ec N B X' E' XD D (openE dOps (newG (wrap64 (d.wk + 1)) z) (engD d)).2.1 (openE dOps (newG (wrap64 (d.wk + 1)) z) (engD d)).2.2 m' v' vs' 1500 w' ∧ Below N w w' := by
  have gok := GOK.open hz (wrap64 (d.wk + 1)) (engD d) h.ed.dv.len
  refine (cStart_any XD D d vs z w h.xd h.ed.dv ht hz.len hz.st).mono ?_
  generalize openE dOps (newG (wrap64 (d.wk + 1)) z) (engD d) = R at *
  rintro e w2 ⟨vs', hd, hc, vo, ⟨hn, _⟩ | ⟨_, X', E', m', v', hE, hX, rfl, hxa, hea, hef, hdx⟩⟩
  · exact absurd ho hn
  have hz2 := hc.size
  have hXD : ¬ dHas D vs XD := fun q => (h.kp XD (.inr (.inl rfl))).2 (.inr q)
  have hB : ¬ dHas D vs B := fun q => (h.kp B (.inr (.inr rfl))).2 (.inr q)
  have hXl := (h.kp XD (.inr (.inl rfl))).1
  have hBl := (h.kp B (.inr (.inr rfl))).1
  have old : ∀ y, y < w.heap.size → ¬ dHas D vs y → ¬ (eHas E' m' v' y ∨ dHas D vs' y) := fun y hy hn c => by
    rcases c with c | c
    · have := (hef y c).1; omega
    · rcases vo y c with e | e
      · exact hn e
      · omega
  refine ⟨X', E', m', v', vs', rfl, ⟨hxa, (World.cell?_of_block (hc.other XD hXl hXD)).trans h.xd, hea, gok, fun y q => ?_, fun y q => ?_⟩, hc.below hN (fun y q => h.ge y (.inr q))⟩
  · rcases q with rfl | rfl | rfl
    · exact ⟨block_lt_of_cell hxa, fun c => c.elim (fun c => (hef _ c).2 rfl) (fun c => hdx _ c rfl)⟩
    · exact ⟨by omega, old _ hXl hXD⟩
    · exact ⟨by omega, old _ hBl hB⟩
  · rcases q with q | q
    · have := (hef y q).1; omega
    · rcases vo y q with e | e
      · exact h.ge y (.inr e)
      · omega
end Go.Proofs.YtmmflekajbeamabGreatDoor

namespace Go.Proofs.YtmmflekajbeamabGreatDoor
open Go.RowKit Go.Maps Go.WideMaps

/-- What the walk of first wants of what comes behind. -/
structure Fw (W : World) (R0 : Int × EgN × DvN) (R1 : EgN × Nat) (R2 R3 : Int × EgN × DvN) (R4 : EgN × Nat) : Prop where
  fs : Fst R0 R1 R2 R3 R4
  run : ∀ {B X E XD D m v vs w}, Ec W.heap.size B X E XD D R0.2.1 R0.2.2 m v vs 1500 w → W.heap.size ≤ w.heap.size → Tab w → Calls Tryz.prog 18 #[.pointer (some ⟨X, 0, none⟩), .int .i64 9] w fun e' w' => e' = .returned (.tuple #[.int .i64 (R1.2 : Int), .int .i64 0]) ∧ ∃ m' v', Ec W.heap.size B X E XD D R1.1 R0.2.2 m' v' vs 9504 w' ∧ Below W.heap.size w w' ∧ w'.heap[B]? = w.heap[B]?
  pers : ∀ {B X E XD D m v vs w}, Ec W.heap.size B X E XD D R1.1 R0.2.2 m v vs 9504 w → W.heap.size ≤ w.heap.size → Tab w → Calls Tryz.prog 16 #[.pointer (some ⟨X, 0, none⟩)] w fun e' w' => e' = .returned (.int .i64 R2.1) ∧ ∃ m' v' vs', Ec W.heap.size B X E XD D R2.2.1 R2.2.2 m' v' vs' 9504 w' ∧ Below W.heap.size w w' ∧ w'.heap[B]? = w.heap[B]?
  start : ∀ {B X E XD D m v vs w}, Ec W.heap.size B X E XD D R2.2.1 R2.2.2 m v vs 9504 w → W.heap.size ≤ w.heap.size → Tab w → Calls Tryz.prog 20 #[.pointer (some ⟨XD, 0, none⟩), .agg (S fsZ)] w fun e' w' => ∃ X' E' m' v' vs', e' = .returned (.tuple #[.pointer (some ⟨X', 0, none⟩), .int .i64 0]) ∧ Ec W.heap.size B X' E' XD D R3.2.1 R3.2.2 m' v' vs' 1500 w' ∧ Below W.heap.size w w'
  run2 : ∀ {B X E XD D m v vs w}, Ec W.heap.size B X E XD D R3.2.1 R3.2.2 m v vs 1500 w → W.heap.size ≤ w.heap.size → Tab w → Calls Tryz.prog 18 #[.pointer (some ⟨X, 0, none⟩), .int .i64 9] w fun e' w' => e' = .returned (.tuple #[.int .i64 (R4.2 : Int), .int .i64 0]) ∧ ∃ m' v', Ec W.heap.size B X E XD D R4.1 R3.2.2 m' v' vs 9504 w' ∧ Below W.heap.size w w' ∧ w'.heap[B]? = w.heap[B]?
  zl : R4.1.z.length = 138
theorem fw_all (W : World) : Fw W (op0 fsZ) fs1 fs2 fs3 fs4 := by
  have F := fst_all
  have hw : wrap64 (fs2.2.2.wk + 1) = 2 := by rw [F.w2]; unfold wrap64; omega
  have e1 : runE (op0 fsZ).2.1 9 = fs1 := by unfold fs1; rfl
  have e2 : persE dOps fs1.1 (op0 fsZ).2.2 = fs2 := by unfold fs2; rfl
  have e3 : openE dOps (newG 2 fsZ) (engD fs2.2.2) = fs3 := by unfold fs3; rfl
  have e4 : runE fs3.2.1 9 = fs4 := by unfold fs4; rfl
  have hzl : fs4.1.z.length = 138 := by decide +kernel
  generalize fs4 = R4 at *
  generalize fs3 = R3 at *
  generalize fs2 = R2 at *
  generalize fs1 = R1 at *
  generalize op0 fsZ = R0 at *
  refine ⟨F, fun h hN ht => ?_, fun h hN ht => ?_, fun h hN ht => ?_, fun h hN ht => ?_, hzl⟩
  · have q := h.run hN ht (by omega) 9 (by omega) F.o1
    rw [e1] at q
    exact q
  · have q := h.persist hN ht (by omega) F.o2
    rw [e2] at q
    exact q
  · have q := h.start hN ht fsZ_ok (by rw [hw, e3]; exact F.s3)
    rw [hw, e3] at q
    exact q
  · have q := h.run hN ht (by omega) 9 (by omega) F.o3
    rw [e4] at q
    exact q
set_option maxRecDepth 100000 in
set_option maxHeartbeats 8000000 in
theorem first_any (w : World) (ht : Tab w) : Calls Tryz.prog 6 #[] w fun e' w' => e' = .returned (.bool true) ∧ Below w.heap.size w w' := by
  have zz := zero34
  obtain ⟨V, hV⟩ : ∃ V, V = w.alloc (.cells (S zeroZ) 25) := ⟨_, rfl⟩
  have rV : RowI V w.heap.size 25 zeroZ := by unfold RowI; rw [hV, _root_.Go.heap_alloc_new]
  have cs : V.cell? ⟨w.heap.size, 8, none⟩ = some (.int .i64 0) := cell_row rV 8
  have cf : V.frozen? ⟨w.heap.size, 8, none⟩ = false := by unfold World.frozen?; rw [rV]; simp
  obtain ⟨W, hW⟩ : ∃ W, W = V.setCell ⟨w.heap.size, 8, none⟩ (.int .i64 17825799) := ⟨_, rfl⟩
  have rW : RowI W w.heap.size 25 fsZ := by rw [hW]; exact rV.set 8 17825799
  have hbW : Below w.heap.size w W := by rw [hW, hV]; exact ((Below.refl _ _).alloc (Nat.le_refl _) _).setCell (p := ⟨w.heap.size, 8, none⟩) (Nat.le_refl _) _
  have HV := hide hV; have HW := hide hW; have HRW := hide rW; have HBW := hide hbW
  have HT : Hid (∀ w', Below W.heap.size W w' → Tab w') := fun w' hb => (ht.below ht.pos hbW).below (Nat.lt_of_lt_of_le ht.pos hbW.size) hb
  have hzl : fsZ.length = 138 := rfl
  have szl := zlen fsZ hzl
  have gW := range_row rW 0 138 (by omega)
  rw [List.drop_zero, List.take_of_length_le (by omega)] at gW
  have HBe := hide (bench_any fsZ W fsZ_ok (ht.below ht.pos hbW))
  have hWl : w.heap.size < W.heap.size := rW.lt
  have HWl := hide hWl
  have HF := hide (fw_all W)
  obtain ⟨R0, hR0⟩ : ∃ R, R = op0 fsZ := ⟨_, rfl⟩
  obtain ⟨R1, hR1⟩ : ∃ R, R = fs1 := ⟨_, rfl⟩
  obtain ⟨R2, hR2⟩ : ∃ R, R = fs2 := ⟨_, rfl⟩
  obtain ⟨R3, hR3⟩ : ∃ R, R = fs3 := ⟨_, rfl⟩
  obtain ⟨R4, hR4⟩ : ∃ R, R = fs4 := ⟨_, rfl⟩
  rw [← hR0] at HBe HF
  rw [← hR1, ← hR2, ← hR3, ← hR4] at HF
  obtain ⟨Z, hZ⟩ : ∃ Z, Z = fsZ := ⟨_, rfl⟩
  have HSt : Hid (∀ {B X E XD D m v vs w}, Ec W.heap.size B X E XD D R2.2.1 R2.2.2 m v vs 9504 w → W.heap.size ≤ w.heap.size → Tab w → Calls Tryz.prog 20 #[.pointer (some ⟨XD, 0, none⟩), .agg (S Z)] w fun e' w' => ∃ X' E' m' v' vs', e' = .returned (.tuple #[.pointer (some ⟨X', 0, none⟩), .int .i64 0]) ∧ Ec W.heap.size B X' E' XD D R3.2.1 R3.2.2 m' v' vs' 1500 w' ∧ Below W.heap.size w w') := by
    unfold Hid
    rw [hZ]
    exact HF.out.start
  rw [← hZ] at HBe gW hzl szl
  clear hR0 hR1 hR2 hR3 hR4 hZ ht hV hW rV rW hbW
  go_enter Tryz.func6, Tryz.ntmps6
  go_upto_region 2 with fail
  rw [← HV.out]
  go_upto_region 3 with fail
  rw [← HW.out]
  clear cs cf
  go_wp2_with (refine wpList_load_midZ rfl 25 _ rfl w.heap.size 0 rfl Z _ gW Tryz.underlying25 rfl szl ?_)
  refine (unhide HBe).mono ?_
  rintro e w1 ⟨B, rfl, b, en, hbn, hb1, hbz, hbd, heg, _⟩
  have hec := hbn.ec
  rw [hbd, heg] at hec
  have k1 := (hbn.2.2 en rfl).c1
  have k0 := hbn.1.c0
  have hz1 := hb1.size
  have HC := hide (HF.out.run hec hz1 (HT.out w1 hb1))
  rw [HF.out.fs.n1] at HC
  have HB1 := hide hb1; have HK0 := hide k0; have HK1 := hide k1
  have HBl := hide hbn.1.lt
  clear hbn hec hbd heg hbz hb1 k0 HBe
  go_wp2_with fail
  refine (unhide HC).mono ?_
  rintro e w2 ⟨rfl, m2, v2, h2, hb2, hB2⟩
  have k1 := (World.cell?_of_block (a := ⟨B, 1, none⟩) hB2).trans HK1.out
  have hz2 := hb2.size
  have HB2 : Hid (Below W.heap.size W w2) := HB1.out.trans hb2
  have HC2 := hide (HF.out.pers h2 (Nat.le_trans hz1 hz2) (HT.out w2 HB2.out))
  rw [HF.out.fs.p2] at HC2
  have HBB2 := hide hB2
  clear h2 hb2 hB2 HC
  go_wp2_with fail
  refine (unhide HC2).mono ?_
  rintro e w3 ⟨rfl, m3, v3, vs3, h3, hb3, hB3⟩
  have k1 := (World.cell?_of_block (a := ⟨B, 1, none⟩) (hB3.trans HBB2.out)).trans HK1.out
  have hz3 := hb3.size
  have HB3 : Hid (Below W.heap.size W w3) := HB2.out.trans hb3
  have HC3 := hide (h3.known (by omega))
  rw [HF.out.fs.k2] at HC3
  have H3 := hide h3
  have HBB3 : Hid (w3.heap[B]? = w1.heap[B]?) := hB3.trans HBB2.out
  clear h3 hb3 hB3 HC2
  go_wp2_with fail
  refine (unhide HC3).mono ?_
  rintro e w4 ⟨u, rfl, hu, hb4⟩
  obtain ⟨ua, uc, hul⟩ := owns_len hu
  subst hul
  have hz4 := hb4.size
  have hN3 : W.heap.size ≤ w3.heap.size := HB3.out.size
  have HB4 : Hid (Below W.heap.size W w4) := HB3.out.trans (hb4.mono hN3)
  have h4 := H3.out.up hN3 hb4
  have hBw3 : B < w3.heap.size := (H3.out.kp B (.inr (.inr rfl))).1
  have k0 : w4.cell? ⟨B, 0, none⟩ = some (.pointer (some ⟨b.X, 0, none⟩)) := (World.cell?_of_block ((hb4.block B hBw3).trans HBB3.out)).trans HK0.out
  have r4 : w4.rangeAt w.heap.size 0 (Z.map (Value.int .i64)) := fun j x q => (World.cell?_of_block (HB4.out.block _ HWl.out)).trans (gW j x q)
  have h4d : Ec W.heap.size B en.X en.E b.X b.D R2.2.1 R2.2.2 m3 v3 vs3 9504 w4.drew := h4.up (by omega) (Below.refl _ w4).drew
  have HC4 := hide (HSt.out h4d (by show W.heap.size ≤ w4.heap.size; omega) (HT.out w4.drew HB4.out.drew))
  clear hu hb4 h4 h4d HC3 H3
  go_upto_region 9 with fail
  refine held_pick3 6 [0, 1, 2, 3, 4] [5] 5 6 (fun w' => w'.cell? ⟨B, 0, none⟩ = some (.pointer (some ⟨b.X, 0, none⟩)) ∧ Hid (w'.rangeAt w.heap.size 0 (Z.map (Value.int .i64)))) (by kernel_rfl) (by kernel_rfl) (fun d _ _ _ _ h => by cases d <;> exact h) ⟨k0, r4⟩ ?_
  iterate 4
    refine wpTakeI_step ?_ rfl rfl ?_ ?_
    rotate_left
    · rintro w' ⟨q0, q1⟩
      go_simp
      rfl
    go_simp
  refine ⟨_, .agg (S Z), rfl, yieldsIf_load_mid rfl 25 _ rfl w.heap.size 0 rfl (Z.map (Value.int .i64)) _ (fun w' hS => hS.2.out) Tryz.underlying25 rfl szl, ?_⟩
  go_simp
  refine wpTakeI_nil ?_
  refine wpTailJ_step rfl rfl (fun K hK => ?_)
  go_simp
  refine (unhide HC4).mono ?_
  rintro e w5 ⟨X5, E5, m5, v5, vs5, rfl, h5, hb5⟩
  have hz5 := hb5.size
  have hz5' : w4.heap.size ≤ w5.heap.size := hz5
  have HB5 : Hid (Below W.heap.size W w5) := (HB4.out.drew).trans hb5
  have HC5 := hide (HF.out.run2 h5 (by omega) (HT.out w5 HB5.out))
  rw [HF.out.fs.n4] at HC5
  clear h5 hb5 HC4 k0 r4
  go_simp
  refine hK _ _ (fun h => absurd h (by decide)) ?_
  clear hK K
  refine wpTailJ_nil ?_
  repeat still_step
  refine wpStill_nil ?_
  go_wp2_with fail
  refine (unhide HC5).mono ?_
  rintro e w6 ⟨rfl, m6, v6, h6, hb6, _⟩
  have hz6 := hb6.size
  have HB6 : Hid (Below W.heap.size W w6) := HB5.out.trans hb6
  have HC6 := hide (cCounts_any X5 E5 b.D R4.1 m6 v6 w6 h6.x h6.ed.eg)
  rw [HF.out.fs.c1, HF.out.fs.c3] at HC6
  have H6 := hide h6
  generalize R4.1.c 0 = C0 at *
  generalize R4.1.c 2 = C2 at *
  generalize (R4.1.b 1).length = C4 at *
  clear h6 hb6 HC5
  go_wp2_with fail
  refine (unhide HC6).mono ?_
  rintro e w7 ⟨rfl, hb7⟩
  have hz7 := hb7.size
  obtain ⟨W8, hW8⟩ : ∃ W8, W8 = w7.alloc (.cells #[.int .i64 (C0 : Int), .int .i64 1, .int .i64 (C2 : Int), .int .i64 0, .int .i64 (C4 : Int)] 45) := ⟨_, rfl⟩
  have hb8 : Below w6.heap.size w6 W8 := by rw [hW8]; exact hb7.alloc hz7 _
  have r8 : W8.heap[w7.heap.size]? = some (.cells #[.int .i64 (C0 : Int), .int .i64 1, .int .i64 (C2 : Int), .int .i64 0, .int .i64 (C4 : Int)] 45 (0, 0)) := by rw [hW8, _root_.Go.heap_alloc_new]
  have hN6 : W.heap.size ≤ w6.heap.size := HB6.out.size
  have h8 := H6.out.up hN6 hb8
  have HC8 := hide (cState_any X5 E5 b.D R4.1 m6 v6 W8 h8.x h8.ed.eg)
  have HW8 := hide hW8; have HR8 := hide r8; have HB8 := hide hb8
  have hs8 : w7.heap.size < W8.heap.size := (Array.getElem?_eq_some_iff.1 r8).1
  have hz4l : R4.1.z.length = 138 := HF.out.zl
  have hr1 := HF.out.fs.r1
  have hst := HF.out.fs.st
  generalize R4.1.z = Z4 at *
  clear hb7 hW8 hb8 r8 h8 HC6
  go_upto_region 14 with fail
  rw [← HW8.out]
  go_wp2_with fail
  refine (unhide HC8).mono ?_
  rintro e w9 ⟨rfl, hb9⟩
  have hz9 := hb9.size
  obtain ⟨W10, hW10⟩ : ∃ W10, W10 = w9.alloc (.cells (S Z4) 25) := ⟨_, rfl⟩
  have hb10 : Below W8.heap.size W8 W10 := by rw [hW10]; exact hb9.alloc hz9 _
  have r10 : RowI W10 w9.heap.size 25 Z4 := by unfold RowI; rw [hW10, _root_.Go.heap_alloc_new]
  have q1 : W10.cell? ⟨w7.heap.size, 1, none⟩ = some (.int .i64 1) := (World.cell?_of_block (hb10.block _ hs8)).trans (cell_row HR8.out 1)
  have q3 : W10.cell? ⟨w7.heap.size, 3, none⟩ = some (.int .i64 0) := (World.cell?_of_block (hb10.block _ hs8)).trans (cell_row HR8.out 3)
  have p1 := r10.cell 1 (by omega)
  have p7 := r10.cell 137 (by omega)
  rw [hr1] at p1
  rw [hst] at p7
  have HFin : Hid (Below w.heap.size w W10) := (HBW.out.trans (HB6.out.mono (Nat.le_of_lt HWl.out))).trans (((HB8.out.mono (Nat.le_of_lt (Nat.lt_of_lt_of_le HWl.out hN6))).trans (hb10.mono (by have := HB8.out.size; have := HWl.out; omega))))
  have HW10 := hide hW10
  clear hb9 hW10 hb10 r10 hr1 hst HC8
  go_upto_region 15 with (refine wpList_store_S rfl _ _ rfl w9.heap.size rfl Z4 rfl hz4l (by rw [isRowB_alloc_at _ _ _ _ _ rfl]; simp [S_size, zeroZ]) _ (setRow_alloc_at _ _ _ _ _ rfl) ?_)
  rw [← HW10.out]
  go_wp2_with fail
  go_ret
  exact ⟨rfl, HFin.out⟩
end Go.Proofs.YtmmflekajbeamabGreatDoor

namespace Go.Proofs.YtmmflekajbeamabGreatDoor
open Go.RowKit Go.Maps Go.WideMaps

/-- Bounds of a step's cells. -/
def SpOk (cs : List Value) : Prop := ∃ kd a b s, cs = (spC kd a b s).toList ∧ SbOK kd a b s ∧ s.size ≤ 1000000000
/-- A script of steps in memory. -/
structure SsAt (v : Value) (n : Nat) (w : World) : Prop where
  form : ∃ a c, v = .slice a n c
  at' : ∀ i, i < n → ∃ g o c, v = .slice (some ⟨g, o, none⟩) n c ∧ g < w.heap.size ∧ ∃ cs, SpOk cs ∧ w.rangeAt g (o + i * 4) cs
theorem SsAt.up {v : Value} {n : Nat} {w w' : World} (h : SsAt v n w) (hb : Below w.heap.size w w') : SsAt v n w' := by
  refine ⟨h.form, fun i hi => ?_⟩
  obtain ⟨g, o, c, e, hg, cs, hc, hr⟩ := h.at' i hi
  exact ⟨g, o, c, e, Nat.lt_of_lt_of_le hg hb.size, cs, hc, fun j u q => (World.cell?_of_block (hb.block g hg)).trans (hr j u q)⟩
theorem fit_run {z : List Int} (hz : z.length = 138) : RunOK (fitZ z) := by
  obtain ⟨regs, mem, pc, e, hr, hm, hp⟩ := fitZ_form hz
  rw [e]
  exact ⟨mkZ_len hr.1 hm.1, mkZ_stB hr hm (by omega) (by omega) (by decide) (by decide)⟩
theorem sizeSp : (Tryz.prog.info? 33).map (·.size) = some 4 := by kernel_rfl
end Go.Proofs.YtmmflekajbeamabGreatDoor

namespace Go.Proofs.YtmmflekajbeamabGreatDoor
open Go.ChangeShapes Go.WideShapes Go.ChangeAt Go.WideMaps Go.WideElems Go.RowKit

theorem own : ownKnob Tryz.prog.godebug = none := by kernel_rfl
theorem laidOut : laidOutB Tryz.prog = true := by kernel_rfl
theorem gRows : Tryz.prog.globalNamed "crib/code.rows" = some 0 := by kernel_rfl
theorem tRows : (Tryz.prog.globals[0]?).map (·.type) = some 276 := by kernel_rfl
theorem c114 : Tryz.prog.cellsOf 254 = 3 := by kernel_rfl
theorem c132 : Tryz.prog.cellsOf 276 = 36 := by kernel_rfl
theorem c9 : Tryz.prog.cellsOf 9 = 1 := by kernel_rfl
theorem cells3t : Tryz.prog.cellsOf 3 = 1 := by kernel_rfl

set_option maxRecDepth 100000 in
/-- A row of the table, read: its three cells. -/
theorem row_cells {H : Type} {enc : TypeId × Value → H} {W : World} {base : Nat} {spare : Nat → Bool} {held : Bool} {m : Nat} {cs : List Value} {x : DataW H × List MemPlace} {a b : List UInt8} {n : Int}
    (h : DataW.trod enc Tryz.prog W base spare held m 254 cs = some x) (hx : x.1 = .agg [.lit (.string a), .lit (.int .i64 n), .lit (.string b)]) : cs = [.string ⟨a.toArray⟩, .int .i64 n, .string ⟨b.toArray⟩] := by
  obtain ⟨y0, y1, y2, k, rfl, hl, h0, h1, h2⟩ := Go.Deep.trod_struct3 Tryz.underlying254 h
  rw [c114] at hl
  match cs, hl with
  | [v0, v1, v2], _ =>
    obtain ⟨s0, e0, f0, _⟩ := DataW.trod_string Tryz.underlying9 h0
    obtain ⟨k1, e1, f1, _⟩ := DataW.trod_int Tryz.underlying3 h1
    obtain ⟨s2, e2, f2, _⟩ := DataW.trod_string Tryz.underlying9 h2
    subst f0 f1 f2
    simp [c9, cells3t] at e0 e1 e2
    simp at hx
    obtain ⟨rfl, rfl, rfl⟩ := hx
    subst e0 e1 e2
    rfl

theorem chunk {cs : List Value} {rest : List Value} {i : Nat} (a b c : Value) (h : (cs.drop i).take 3 = [a, b, c]) (hr : cs.drop (i + 3) = rest) : cs.drop i = a :: b :: c :: rest := by
  have := List.take_append_drop 3 (cs.drop i)
  rw [h, List.drop_drop, hr] at this
  exact this.symm

set_option maxRecDepth 100000 in
theorem of_laid {W : World} (h : laidMetH Tryz.prog [("crib/code.rows", Rows.laid_crib_code_rows)] W) : Tab W := by
  rw [MakeChecks.laidMetH_plain _ _ _ (by kernel_rfl)] at h
  obtain ⟨ps, ⟨g0, t0, cs0, f0, p0, q0, hg0, ht0, hv0, hd0, _⟩, _, _⟩ := h
  obtain rfl := Option.some.inj (gRows.symm.trans hg0)
  obtain rfl := Option.some.inj (tRows.symm.trans ht0)
  obtain ⟨xs, m1, rfl, hx1, hlen, hn, hel⟩ := DataW.trod_array Tryz.underlying276 hd0
  rw [c114] at hel
  rw [c132] at hlen
  simp only [Prod.mk.injEq] at hx1
  have hx := hx1.1
  simp only [Rows.laid_crib_code_rows, DataW.agg.injEq] at hx
  match xs, hn, hx, hel with
  | [x0, x1, x2, x3, x4, x5, x6, x7, x8, x9, x10, x11], _, hx, hel =>
    simp only [List.map_cons, List.map_nil, List.cons.injEq, and_true] at hx
    obtain ⟨d0, d1, d2, d3, d4, d5, d6, d7, d8, d9, d10, d11⟩ := hx
    have r0 := row_cells (hel 0 (by decide)) d0.symm
    have r1 := row_cells (hel 1 (by decide)) d1.symm
    have r2 := row_cells (hel 2 (by decide)) d2.symm
    have r3 := row_cells (hel 3 (by decide)) d3.symm
    have r4 := row_cells (hel 4 (by decide)) d4.symm
    have r5 := row_cells (hel 5 (by decide)) d5.symm
    have r6 := row_cells (hel 6 (by decide)) d6.symm
    have r7 := row_cells (hel 7 (by decide)) d7.symm
    have r8 := row_cells (hel 8 (by decide)) d8.symm
    have r9 := row_cells (hel 9 (by decide)) d9.symm
    have r10 := row_cells (hel 10 (by decide)) d10.symm
    have r11 := row_cells (hel 11 (by decide)) d11.symm
    have e12 : cs0.toList.drop 36 = [] := List.drop_of_length_le (by omega)
    have e11 := chunk _ _ _ r11 e12
    have e10 := chunk _ _ _ r10 e11
    have e9 := chunk _ _ _ r9 e10
    have e8 := chunk _ _ _ r8 e9
    have e7 := chunk _ _ _ r7 e8
    have e6 := chunk _ _ _ r6 e7
    have e5 := chunk _ _ _ r5 e6
    have e4 := chunk _ _ _ r4 e5
    have e3 := chunk _ _ _ r3 e4
    have e2 := chunk _ _ _ r2 e3
    have e1 := chunk _ _ _ r1 e2
    have e0 := chunk _ _ _ r0 e1
    have ec : cs0 = tabA := by
      apply Array.toList_inj.1
      have : cs0.toList.drop (0 * 3) = cs0.toList := rfl
      rw [← this, e0]
      rfl
    subst ec
    unfold World.var? at hv0
    rw [gRows] at hv0
    simp only [Option.bind_some] at hv0
    unfold Tab
    split at hv0
    · rename_i c t fr hc
      cases hv0
      exact ⟨t, fr, hc⟩
    · cases hv0

/-- The heap that the program's own start-up leaves meets the condition. -/
theorem door_met (os : Os) (args : Array Value) : laidMetH Tryz.prog [("crib/code.rows", Rows.laid_crib_code_rows)] ((World.doorLaid Tryz.prog 26 os).forCall (fun _ _ => 0) ⟨#[], args, []⟩).memory :=
  laidMetH_of_parts3 (fuel := 8) (laidMet_of_run' 8 (by kernel_rfl) (by kernel_rfl)) (by kernel_rfl) (by kernel_rfl)
end Go.Proofs.YtmmflekajbeamabGreatDoor

namespace Go.Proofs.YtmmflekajbeamabGreatDoor
open Go.ChangeShapes Go.WideShapes Go.ChangeAt Go.WideMaps Go.WideElems Go.RowKit

section
variable {H : Type} {enc : TypeId × Value → H} {w : World} {base : Nat} {sp : Nat → Bool} {held : Bool}
theorem c_int : Tryz.prog.cellsOf 3 = 1 := by kernel_rfl
theorem c_str : Tryz.prog.cellsOf 9 = 1 := by kernel_rfl
theorem one_at {cs : List Value} {i : Nat} {v : Value} (h : (cs.drop i).take 1 = [v]) : cs[i]? = some v := by
  have : ((cs.drop i).take 1)[0]? = some v := by rw [h]; rfl
  rw [List.getElem?_take, if_pos (by decide), List.getElem?_drop] at this
  simpa using this
theorem int_at {fuel : Nat} {cs : List Value} {i : Nat} {x : DataW H × List MemPlace} (h : DataW.trod enc Tryz.prog w base sp held fuel 3 ((cs.drop i).take (Tryz.prog.cellsOf 3)) = some x) : ∃ n, cs[i]? = some (.int .i64 n) ∧ -9223372036854775808 ≤ n ∧ n ≤ 9223372036854775807 := by
  rw [c_int] at h
  obtain ⟨n, h1, _, hw⟩ := DataW.trod_int Tryz.underlying3 h
  exact ⟨n, one_at h1, Go.bounds_i64 hw⟩
theorem str_at {fuel : Nat} {cs : List Value} {i : Nat} {x : DataW H × List MemPlace} (h : DataW.trod enc Tryz.prog w base sp held fuel 9 ((cs.drop i).take (Tryz.prog.cellsOf 9)) = some x) : ∃ s : ByteArray, cs[i]? = some (.string s) ∧ x.1 = .lit (.string s.data.toList) := by
  rw [c_str] at h
  obtain ⟨s, h1, h2, _⟩ := DataW.trod_string Tryz.underlying9 h
  exact ⟨s, one_at h1, by rw [h2]⟩
theorem bulk_pos (d : DataW H) : 1 ≤ Rows.uptoBulk d := by
  cases d with
  | lit l => cases l <;> simp [Rows.uptoBulk]
  | _ => simp [Rows.uptoBulk]
theorem bulk_len : ∀ l : List (DataW H), l.length ≤ Rows.uptoBulkAll l
  | [] => Nat.zero_le _
  | x :: l => by
    have h1 := bulk_pos x
    have h2 := bulk_len l
    simp only [Rows.uptoBulkAll, List.length_cons]
    omega
end
end Go.Proofs.YtmmflekajbeamabGreatDoor

namespace Go.Proofs.YtmmflekajbeamabGreatDoor
open Go.ChangeShapes Go.WideShapes Go.ChangeAt Go.WideMaps Go.WideElems Go.RowKit

section
variable {H : Type} {enc : TypeId × Value → H} {w : World} {base : Nat} {sp : Nat → Bool} {held : Bool}
theorem c_Sp : Tryz.prog.cellsOf 33 = 4 := by kernel_rfl
theorem bulk_in {d : DataW H} : ∀ {l : List (DataW H)}, d ∈ l → Rows.uptoBulk d ≤ Rows.uptoBulkAll l
  | [], h => by cases h
  | x :: l, h => by
    simp only [Rows.uptoBulkAll]
    rcases List.mem_cons.1 h with rfl | h
    · omega
    · have := bulk_in h
      omega
theorem sp_shape {cs : List Value} {kd a b : Int} {s : ByteArray} (hl : cs.length = 4) (e0 : cs[0]? = some (.int .i64 kd)) (e1 : cs[1]? = some (.int .i64 a)) (e2 : cs[2]? = some (.int .i64 b)) (e3 : cs[3]? = some (.string s)) : cs = (spC kd a b s).toList := by
  match cs, hl with
  | [v0, v1, v2, v3], _ =>
    simp only [List.getElem?_cons_zero, List.getElem?_cons_succ, Option.some.injEq] at e0 e1 e2 e3
    subst e0 e1 e2 e3
    rfl
/-- One step that came in. -/
theorem sp_open {fuel : Nat} {cs : List Value} {x : DataW H × List MemPlace} (h : DataW.trod enc Tryz.prog w base sp held fuel 33 cs = some x) (hbk : Rows.uptoBulk x.1 ≤ 1048576) : SpOk cs := by
  obtain ⟨xs, m, _, hx, hl, hxl, hf⟩ := DataW.trod_struct Tryz.underlying33 h
  rw [c_Sp] at hl
  have hxl' : xs.length = 4 := hxl
  have g0 := hf 0 _ rfl
  have g1 := hf 1 _ rfl
  have g2 := hf 2 _ rfl
  have g3 := hf 3 _ rfl
  match xs, hxl' with
  | [y0, y1, y2, y3], _ =>
    obtain ⟨kd, e0, b0⟩ := int_at g0
    obtain ⟨a, e1, b1⟩ := int_at g1
    obtain ⟨b, e2, b2⟩ := int_at g2
    obtain ⟨s, e3, y3e⟩ := str_at g3
    have h2 : s.size ≤ 1000000000 := by
      rw [hx] at hbk
      simp [Rows.uptoBulk, Rows.uptoBulkAll, y3e] at hbk
      have : s.size = s.data.size := rfl
      omega
    exact ⟨kd, a, b, s, sp_shape hl e0 e1 e2 e3, ⟨b0, b1, b2, by omega⟩, h2⟩
set_option maxRecDepth 100000 in
/-- A whole script that came in. -/
theorem steps_open {fuel : Nat} {v : Value} {d : DataW H} {p : List MemPlace} (h : DataW.trod enc Tryz.prog w base sp held fuel 26 v.cells.toList = some (d, p)) (hv : ∃ a len cap, v = .slice a len cap) (hlt : ∀ x ∈ p, x.block < w.heap.size)  (hb8 : Rows.uptoBulk d ≤ 1048576) : ∃ n, SsAt v n w ∧ n ≤ Rows.uptoBulk d := by
  obtain ⟨a0, len0, cap0, rfl⟩ := hv
  rcases Go.Deep.open_slice Tryz.underlying26 h with ⟨hcs, _⟩ | ⟨a, len, cap, m, n, D, Pl, hcs, hb, hl, hm, hmm, hx, hel⟩
  · simp [Value.cells] at hcs
    obtain ⟨rfl, rfl, rfl⟩ := hcs
    exact ⟨0, ⟨⟨none, 0, rfl⟩, fun i hi => absurd hi (Nat.not_lt_zero _)⟩, Nat.zero_le _⟩
  · simp [Value.cells] at hcs
    obtain ⟨rfl, rfl, rfl⟩ := hcs
    simp only [Prod.mk.injEq] at hx
    obtain ⟨hd, hp⟩ := hx
    rw [hp] at hlt
    have hb9 := hb8
    rw [hd] at hb9
    have hbk : len0 ≤ Rows.uptoBulk d := by
      have h1 := bulk_len ((List.range len0).map D)
      rw [List.length_map, List.length_range] at h1
      rw [hd]
      simp only [Rows.uptoBulk]
      omega
    clear hd hp h
    rw [c_Sp] at hel hlt
    have hbi : ∀ i, i < len0 → Rows.uptoBulk (D i) ≤ 1048576 := fun i hi => by
      have h1 := bulk_in (List.mem_map.2 ⟨i, List.mem_range.2 hi, rfl⟩ : D i ∈ (List.range len0).map D)
      have h2 := hb9
      simp only [Rows.uptoBulk] at h2
      omega
    have hlm : len0 ≤ m := by rw [hmm]; split <;> omega
    refine ⟨len0, ⟨⟨_, _, rfl⟩, fun i hi => ?_⟩, hbk⟩
    · obtain ⟨cs', h1, h2⟩ := hel i (by omega)
      obtain ⟨_, hcl, hcell⟩ := World.cells?_some h1
      have hok := sp_open h2 (hbi i hi)
      obtain ⟨cz, z1, z2⟩ := hel 0 (by omega)
      obtain ⟨_, hzl, hzc⟩ := World.cells?_some z1
      have hc0 := hzc 0 (by omega)
      rw [List.getElem?_eq_getElem (by omega)] at hc0
      obtain ⟨blk, off, spot⟩ := a
      have hspot : spot = none := by simpa [Addr.add] using World.cell?_spot hc0
      subst hspot
      refine ⟨blk, off, _, rfl, ?_, cs', hok, fun j x hj => ?_⟩
      · have hm0 : 0 < m := by omega
        exact hlt (.cell blk (off + 0)) (List.mem_append_left _ (MemPlace.mem_row.2 ⟨0, by omega, rfl⟩))
      · have hj4 : j < 4 := by rw [← hcl]; exact (List.getElem?_eq_some_iff.1 hj).1
        have := hcell j hj4
        rw [hj, Go.Deep.add_add, Go.WideShapes.add_plain] at this
        rw [Nat.add_assoc]
        exact this
end
end Go.Proofs.YtmmflekajbeamabGreatDoor

namespace Go.Proofs.YtmmflekajbeamabGreatDoor

theorem frT_form (k : Nat) (p r : List UInt8) : frT k p ++ r = 99 :: UInt8.ofNat (k / 256 ^ 0 % 256) :: UInt8.ofNat (p.length / 256 ^ 1 % 256) :: UInt8.ofNat (p.length / 256 ^ 0 % 256) :: (p ++ (numB 4 (crc (frH k p)) ++ r)) := by
  unfold frT
  generalize numB 4 (crc (frH k p)) = S
  unfold frH
  simp [numB]
theorem frN_told (k : Nat) (p r : List UInt8) (hp : p.length ≤ 200) : frN (frT k p ++ r) = p.length := by
  rw [frT_form]
  simp only [frN, List.getD_cons_succ, List.getD_cons_zero]
  rw [UInt8.toNat_ofNat', UInt8.toNat_ofNat']
  omega
theorem kind_told (k : Nat) (p r : List UInt8) (hk : k ≤ 3) : ((frT k p ++ r).getD 1 0).toNat = k := by
  rw [frT_form]
  simp only [List.getD_cons_succ, List.getD_cons_zero]
  rw [UInt8.toNat_ofNat']
  omega
theorem pay_told (k : Nat) (p r : List UInt8) : ((frT k p ++ r).drop 4).take p.length = p := by
  rw [frT_form]
  simp
theorem frst_told (k : Nat) (p r : List UInt8) (h1 : 1 ≤ k) (hk : k ≤ 3) (hp : p.length ≤ 200) : frst (frT k p ++ r) = some (k, p) := by
  unfold frst
  rw [frN_told k p r hp, kind_told k p r hk, pay_told]
  rw [if_neg (by rw [List.length_append, frT_len]; omega), if_neg (by rw [List.length_append, frT_len]; omega), if_pos]
  refine ⟨h1, hk, hp, ?_⟩
  rw [← frT_len k p, List.take_left']
  rfl

end Go.Proofs.YtmmflekajbeamabGreatDoor
