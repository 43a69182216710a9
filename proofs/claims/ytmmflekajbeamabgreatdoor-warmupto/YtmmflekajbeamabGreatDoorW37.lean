/-
  THE LAW Warm, for every list of at most two million pieces.
  The table of instructions, as the card's condition tells it, is the table that the walks read; and the program's own start-up meets that condition. Shared by the cards.
  A script that came in: its steps as they lie in memory.
-/
import Derived.Test.YtmmflekajbeamabGreatDoorW36
import Derived.Test.YtmmflekajbeamabGreatDoorW03
import Derived.Test.YtmmflekajbeamabGreatDoorCards
import Derived.Test.YtmmflekajbeamabGreatDoorTie
import Derived.ProofKit
import Derived.LaidMore
import Derived.OpenShut
import Derived.Stop.Joined
import Derived.Deep.Strs
import Derived.SevenTiedAt
import Derived.ChangeMaps5
import Derived.Test.YtmmflekajbeamabGreatDoorW17
import Derived.Deep.Slices
namespace Go.Proofs.YtmmflekajbeamabGreatDoor
open Go.RowKit Go.Maps Go.WideMaps

set_option maxRecDepth 100000 in
set_option maxHeartbeats 8000000 in
theorem warm_any (z : List Int) (v : Value) (xs : List Int) (keep : Int) (junk : ByteArray) (w : World) (hz : z.length = 138) (hzb : ∀ x ∈ z, -9223372036854775808 ≤ x ∧ x ≤ 9223372036854775807) (h : PiAt v xs w) (ht : Tab w) (hn : xs.length ≤ 2000000) :
    Calls Tryz.prog 4 #[.agg (S z), v, .int .i64 keep, .string junk] w fun e' w' => e' = .returned (.bool true) ∧ Below w.heap.size w w' := by
  obtain ⟨ad, cc, rfl⟩ := h.form
  obtain ⟨W, hW⟩ : ∃ W, W = w.alloc (.cells (S z) 25) := ⟨_, rfl⟩
  have hb0 : Below w.heap.size w W := by rw [hW]; exact (Below.refl _ _).alloc (Nat.le_refl _) _
  have rW : RowI W w.heap.size 25 z := by unfold RowI; rw [hW, _root_.Go.heap_alloc_new]
  have HFi := hide (first_any W (ht.below ht.pos hb0))
  have HFt := hide (fun w' => fit_any z w' hz hzb)
  have hfit : RunOK (fitZ z) := fit_run hz
  have HBe := hide (fun w' (hb : Below w.heap.size w w') => bench_any (fitZ z) w' hfit (ht.below ht.pos hb))
  have HT := hide (fun w' (hb : Below w.heap.size w w') => ht.below ht.pos hb)
  have HP := hide ht.pos
  have zz := zero34
  have szl := zlen z hz
  have HH := hide h; have HW := hide hW; have HB0 := hide hb0; have HRW := hide rW; have HN := hide hn; have HFit := hide hfit
  have hfl : (fitZ z).length = 138 := hfit.len
  have szf := zlen (fitZ z) hfl
  clear h ht hzb hW hb0 rW hfit
  generalize fitZ z = Z at *
  go_enter Tryz.func4, Tryz.ntmps4
  go_upto_region 1 with fail
  rw [← HW.out]
  go_wp2_with fail
  refine (unhide HFi).mono ?_
  rintro e w1 ⟨rfl, hb1⟩
  have hWl := HRW.out.lt
  have r1 : RowI w1 w.heap.size 25 z := HRW.out.keep (hb1.block _ hWl)
  have g1 := range_row r1 0 138 (by omega)
  rw [List.drop_zero, List.take_of_length_le (by omega)] at g1
  have HB1 : Hid (Below w.heap.size w w1) := HB0.out.trans (hb1.mono (Nat.le_of_lt hWl))
  have HR1 := hide r1
  clear hb1 HFi r1 hWl
  go_upto_region 2 with fail
  go_wp2_with (refine wpList_load_midZ rfl 25 _ rfl w.heap.size 0 rfl z _ g1 Tryz.underlying25 rfl szl ?_)
  refine (unhide HFt _).mono ?_
  rintro e w2 ⟨rfl, hb2⟩
  have r2 : RowI w2 w.heap.size 25 z := HR1.out.keep (hb2.block _ HR1.out.lt)
  have rI2 := r2.isRow 138 hz
  obtain ⟨W3, hW3⟩ : ∃ W3, W3 = w2.setRow w.heap.size (S Z) := ⟨_, rfl⟩
  have r3 : RowI W3 w.heap.size 25 Z := by rw [hW3]; exact setRow_heap w2 _ _ _ _ (0, 0) r2
  have hb3 : Below w.heap.size w W3 := by rw [hW3]; exact below_setRow (HB1.out.trans (hb2.mono HB1.out.size)) (Nat.le_refl _) _
  have g3 := range_row r3 0 138 (by omega)
  rw [List.drop_zero, List.take_of_length_le (by omega)] at g3
  have HC := hide (HBe.out W3 hb3)
  have HW3 := hide hW3; have HR3 := hide r3; have HB3 := hide hb3
  have hw3l : w.heap.size < W3.heap.size := r3.lt
  have HW3l := hide hw3l
  clear hb2 r2 hW3 r3 hb3 g1 HFt HBe hw3l
  go_upto_region 3 with (refine wpList_store_S rfl _ _ rfl w.heap.size rfl Z rfl hfl rI2 (w2.setRow w.heap.size (S Z)) rfl ?_)
  rw [← HW3.out]
  go_wp2_with (refine wpList_load_midZ rfl 25 _ rfl w.heap.size 0 rfl Z _ g3 Tryz.underlying25 rfl szf ?_)
  refine (unhide HC).mono ?_
  rintro e w4 ⟨B, rfl, b, en, hbn, hb4, hbz, hbd, heg, hmv⟩
  have O := op0_all (z := Z)
  rw [← hbd, ← heg] at O
  have HO := hide O; have HBn := hide hbn; have HB4 := hide hb4; have HBz := hide hbz
  have HN3 : Hid (0 < W3.heap.size) := Nat.lt_of_lt_of_le HP.out HB3.out.size
  have HI0 : Hid (WI W3.heap.size B b en 1 en.g (pcs xs) w4 0 w4) := WI.start hbn (Nat.le_refl _)
  have hz4 := hb4.size
  have HZ4 := hide hz4
  clear hbn hb4 hbz hbd heg hmv O HC rI2 hz4
  go_upto_region 7 with fail
  go_loopw [11] (fun i wr => ∃ j : Nat, j ≤ xs.length ∧ i = .int .i64 j ∧ Hid (WI W3.heap.size B b en 1 en.g (pcs xs) w4 j wr)) (fun i _ => xs.length - (intOf i).toNat)
  case atStart => exact ⟨0, Nat.zero_le _, rfl, HI0.out⟩
  case round =>
    obtain ⟨j, hj, rfl, HI⟩ := hrel
    have hgeb : ∀ x, ownB B b (some en) x → W3.heap.size ≤ x := HBn.out.ge
    have hbr : Below W3.heap.size W3 wr := by
      obtain ⟨m1, v1, _, f⟩ := HI.out.at'
      exact HB4.out.trans (f.below HZ4.out hgeb)
    have hBw : Below w.heap.size w wr := HB3.out.trans (hbr.mono (Nat.le_of_lt HW3l.out))
    by_cases hlt : j < xs.length
    · have hlt' : (j : Int) < (xs.length : Int) := by omega
      obtain ⟨x, hx⟩ : ∃ x, xs[j]? = some x := ⟨_, List.getElem?_eq_getElem hlt⟩
      obtain ⟨G, o, c, hv, hG, hcell, hx0, hx1⟩ := (HH.out.up hBw).at' j x hx
      cases hv
      have hj0 : ¬ (j : Int) < 0 := by omega
      have HPk := hide (fun w' => pick_any x 400 w' hx0 hx1 (by decide) (by decide))
      have hpn : pickI x 400 = (((pickI x 400).toNat : Nat) : Int) := by have := pickI_bd x 400 (by decide); omega
      rw [hpn] at HPk
      have HSt := hide (HI.out.step (pcs_at hx) pcs_le (by have := HN.out; omega) HN3.out HZ4.out (HT.out wr hBw) (HO.out.dw.trans HO.out.wk.symm) HO.out.fl)
      have HwJ : Hid ((j : Int) + 1 = ((j + 1 : Nat) : Int)) := by unfold Hid; omega
      clear hx hx0 hx1 hpn hbr hBw HI HI0 hgeb
      generalize (pickI x 400).toNat = n at *
      go_wp2_with fail
      refine (unhide HPk _).mono ?_
      rintro e w' ⟨rfl, hw⟩
      obtain rfl := hw.symm
      go_wp2_with fail
      refine (unhide HSt).mono ?_
      rintro e w5 ⟨rfl, h5⟩
      have HN5 := hide h5
      clear h5 HSt HPk hcell
      go_wp2_with fail
      exact ⟨⟨j + 1, hlt, congrArg (Value.int .i64) HwJ.out, HN5.out⟩, measM HwJ.out hlt⟩
    · have hlt' : ¬ (j : Int) < (xs.length : Int) := by omega
      have hje : j = (pcs xs).length := by unfold pcs; rw [List.length_map]; omega
      rw [hje] at HI
      obtain ⟨m1, v1, hbn1, hfr1⟩ := HI.out.done
      have hgok0 : GOK en.g 1500 := (HBn.out.2.2 en rfl).ok
      have he1 := (E1.runs (pcs xs) en.g 1500 pcs_le hgok0 HO.out.e1).1
      have hkp := runsE_kp (pcs xs) en.g
      have hov : overE (runsE en.g (pcs xs)) b.d.wk = false := by
        unfold overE
        rw [hkp.fl, hkp.wk, HO.out.fl, HO.out.wk, HO.out.dw]
        simp
      have hgk1 := (hbn1.2.2 _ rfl).ok
      have hwp := warm_pers HO.out hkp he1 hgk1
      have HE2 : Hid (∀ h2, E2 ((runsE en.g (pcs xs)).b 1) en.g h2 → E2 ((runsE en.g (pcs xs)).b 1) (runsE en.g (pcs xs)) (runsE h2 (pcs xs))) := fun h2 q => E2.runs (pcs xs) en.g h2 1500 pcs_le hgok0 q HO.out.e1 (fun x hx => fB_self (hgk1.pu.bk 1 (by decide)) hx)
      have HBk := hide (hgk1.pu.bk 1 (by decide))
      obtain ⟨G1, hG1⟩ : ∃ G1, G1 = runsE en.g (pcs xs) := ⟨_, rfl⟩
      rw [← hG1] at hbn1 hfr1 he1 hkp hov hgk1 hwp HE2 HBk
      have c1 := (hbn1.2.2 _ rfl).c1
      have hzr := hfr1.chg.size
      have hNr : W3.heap.size ≤ wr.heap.size := Nat.le_trans HZ4.out hzr
      have HCt := hide (cCounts_any en.X en.E b.D G1 m1 v1 wr (hbn1.2.2 _ rfl).x (hbn1.2.2 _ rfl).eg)
      rw [he1.c1, he1.c2, he1.c3] at HCt
      have HG1 := hide hG1; have HBn1 := hide hbn1; have HFr1 := hide hfr1; have HE1 := hide he1; have HOv := hide hov; have HWp := hide hwp
      have HBw := hide hBw; have HNr := hide hNr; have HBr := hide hbr
      clear hgok0 he1 hkp hov hgk1 hwp hG1 hbn1 hfr1 hje HI HI0 hgeb hbr hBw hzr hNr
      generalize hL : (G1.b 1).length = L at *
      generalize hC0 : G1.c 0 = C0 at *
      have HLe := hide hL; have HC0 := hide hC0
      clear hL hC0
      go_wp2_with fail
      refine (unhide HCt).mono ?_
      rintro e w5 ⟨rfl, hb5⟩
      have hz5 := hb5.size
      obtain ⟨W6, hW6⟩ : ∃ W6, W6 = w5.alloc (.cells #[.int .i64 (C0 : Int), .int .i64 0, .int .i64 0, .int .i64 (L : Int), .int .i64 (L : Int)] 45) := ⟨_, rfl⟩
      have hb6 : Below wr.heap.size wr W6 := by rw [hW6]; exact hb5.alloc hz5 _
      have r6 : W6.heap[w5.heap.size]? = some (.cells #[.int .i64 (C0 : Int), .int .i64 0, .int .i64 0, .int .i64 (L : Int), .int .i64 (L : Int)] 45 (0, 0)) := by rw [hW6, _root_.Go.heap_alloc_new]
      have hbn6 := HBn1.out.up HNr.out hb6
      have hnx6 : ¬ ownB B { b with z := G1.z } (some { en with g := G1, m := m1, v := v1 }) w5.heap.size := fun q => by have := HBn1.out.own_lt q; omega
      have hx6 : w5.heap.size < W6.heap.size := (Array.getElem?_eq_some_iff.1 r6).1
      have hN6 : W3.heap.size ≤ W6.heap.size := Nat.le_trans HNr.out hb6.size
      have hB6 : Below w.heap.size w W6 := HBw.out.trans (hb6.mono HBw.out.size)
      have HPe := hide (persist_call hbn6 (HT.out W6 hB6) (by have := HN.out; unfold pcs; rw [List.length_map]; omega))
      have hld : ldB { b with z := G1.z } ({ en with g := G1, m := m1, v := v1 } : En).g false = persE dOps G1 b.d := ldB_pers HOv.out
      rw [hld] at HPe
      have HEnd : Hid (∀ (w7 : World) (m2 v2 vs2 : Nat → Value), EdAt en.E b.D (persE dOps G1 b.d).2.1 (persE dOps G1 b.d).2.2 m2 v2 vs2 w7 → EdFr en.E b.D m1 v1 b.vs m2 v2 vs2 W6 w7 → BnAt W3.heap.size B { b with z := G1.z, d := (persE dOps G1 b.d).2.2, vs := vs2 } (some { en with g := (persE dOps G1 b.d).2.1, m := m2, v := v2 }) 1 (1500 + 8004 * (pcs xs).length) w7 ∧ FrB B { b with z := G1.z } (some { en with g := G1, m := m1, v := v1 }) { b with z := G1.z, d := (persE dOps G1 b.d).2.2, vs := vs2 } (some { en with g := (persE dOps G1 b.d).2.1, m := m2, v := v2 }) W6 w7) := fun w7 m2 v2 vs2 a f => by
        have q := ld_end (c := false) hbn6 hN6 (m1 := m2) (v1 := v2) (vs' := vs2) (w1 := w7) (by rw [hld]; exact a) f
        rw [hld] at q
        exact q
      have c6 := (World.cell?_of_block (a := ⟨B, 1, none⟩) (hb6.block B HBn1.out.1.lt)).trans c1
      have HBr6 : Hid (Below W3.heap.size W3 W6) := HBr.out.trans (hb6.mono HNr.out)
      have HW6 := hide hW6; have HR6 := hide r6; have HB6 := hide hB6; have HNx6 := hide hnx6; have HX6 := hide hx6; have HN6 := hide hN6; have HBn6 := hide hbn6
      clear hb5 hW6 hb6 r6 hbn6 hnx6 hx6 hN6 hB6 hld c1 HCt
      generalize persE dOps G1 b.d = R at *
      obtain ⟨rc, rg, rd⟩ := R
      simp only at HPe HEnd HWp
      go_upto_region 13 with fail
      rw [← HW6.out]
      go_wp2_with fail
      refine (unhide HPe).mono ?_
      rintro e w7 ⟨rfl, m2, v2, vs2, ha7, hf7⟩
      obtain ⟨hbn7, hfr7⟩ := HEnd.out w7 m2 v2 vs2 ha7 hf7
      obtain ⟨kx7, hx7, hnx7⟩ := hfr7.keep HX6.out HNx6.out
      have hB7 : Below w.heap.size w w7 := HB6.out.trans ((hfr7.below HN6.out HBn6.out.ge).mono (Nat.le_of_lt HW3l.out))
      have r7 : w7.heap[w5.heap.size]? = _ := kx7.trans HR6.out
      rcases HWp.out with ⟨hc, hpos⟩ | ⟨hc, hfn⟩
      · subst hc
        have hp' : (0 : Int) < (L : Int) := by omega
        have x4 : w7.cell? ⟨w5.heap.size, 4, none⟩ = some (.int .i64 (L : Int)) := cell_row r7 4
        have HB7 := hide hB7; have HPos := hide hpos
        clear ha7 hf7 hbn7 hfr7 kx7 hx7 hnx7 hB7 r7 hpos HPe HEnd
        go_wp2_with fail
        go_ret
        exact ⟨congrArg (fun b => Ending.returned (.bool b)) (decide_eq_true HPos.out), HB7.out⟩
      · subst hc
        have hBr7 : Below W3.heap.size W3 w7 := HBr6.out.trans (hfr7.below HN6.out HBn6.out.ge)
        have hz7 := hBr7.size
        have hzl1 : G1.z.length = 138 := hbn7.1.z.len
        have szl1 := zlen G1.z hzl1
        have st7 := hbn7.1.st
        obtain ⟨W8, hW8⟩ : ∃ W8, W8 = w7.alloc (.cells (S G1.z) 25) := ⟨_, rfl⟩
        have hb8 : Below w7.heap.size w7 W8 := by rw [hW8]; exact (Below.refl _ _).alloc (Nat.le_refl _) _
        have r8 : RowI W8 w7.heap.size 25 G1.z := by unfold RowI; rw [hW8, _root_.Go.heap_alloc_new]
        have ht8 : w7.heap.size < W8.heap.size := r8.lt
        have hnt7 : ¬ ownB B { b with z := G1.z, d := rd, vs := vs2 } (some { en with g := rg, m := m2, v := v2 }) w7.heap.size := fun q => by have := hbn7.own_lt q; omega
        have hd8 := hbn7.1.up hz7 hb8
        obtain ⟨hd9, ho9, hc9, hs9⟩ := hd8.setZ Z HFit.out
        have th8 := there_state hd8 Z hfl
        have rs8 : W8.rangeAt w.heap.size 0 (Z.map (Value.int .i64)) := fun j u q => (World.cell?_of_block ((hb8.block _ (Nat.lt_of_lt_of_le HW3l.out hz7)).trans (hBr7.block _ HW3l.out))).trans (g3 j u q)
        obtain ⟨W9, hW9⟩ : ∃ W9, W9 = W8.setCells B 2 (Z.map (Value.int .i64)) := ⟨_, rfl⟩
        have HW9 : Hid (W8.setCells B 2 (S Z).toList = W9) := by unfold Hid; rw [S_list, hW9]
        rw [← hW9] at hd9 ho9 hs9
        have nxB : w5.heap.size ≠ B := fun q => hnx7 (.inl q)
        have ntB : w7.heap.size ≠ B := fun q => hnt7 (.inl q)
        have rx9 : W9.heap[w5.heap.size]? = some (.cells #[.int .i64 (C0 : Int), .int .i64 0, .int .i64 0, .int .i64 (L : Int), .int .i64 (L : Int)] 45 (0, 0)) := (ho9 _ nxB).trans ((hb8.block _ hx7).trans r7)
        have rt9 : RowI W9 w7.heap.size 25 G1.z := r8.keep (ho9 _ ntB)
        have nn : ∀ x, ¬ ownB B { b with z := G1.z, d := rd, vs := vs2 } (some { en with g := rg, m := m2, v := v2 }) x → ¬ ownB B { b with z := Z, d := rd, vs := vs2 } none x := fun x q c => by
          rcases c with c | c | ⟨_, c, _⟩
          · exact q (.inl c)
          · exact q (.inr (.inl c))
          · cases c
        have hN9 : W3.heap.size ≤ W9.heap.size := by rw [hs9]; exact Nat.le_trans hz7 hb8.size
        have hBr9 : Below W3.heap.size W3 W9 := by rw [hW9]; exact below_setCells hbn7.1.ge.1 _ _ _ (hBr7.trans (hb8.mono hz7))
        have HMv := hide (moves_any hd9 hN9 keep junk (by decide))
        have HX9 : Hid (w5.heap.size < W9.heap.size ∧ w7.heap.size < W9.heap.size) := by unfold Hid; rw [hs9]; exact ⟨Nat.lt_of_lt_of_le hx7 hb8.size, ht8⟩
        have HNx9 := hide (And.intro (nn _ hnx7) (nn _ hnt7))
        have HRx9 := hide rx9; have HRt9 := hide rt9; have HBr9 := hide hBr9; have HD9 := hide hd9; have HFn := hide hfn; have HN9 := hide hN9
        have HW8 := hide hW8
        have hone := S_one Z
        have hs28 : (Tryz.prog.info? 25).map (·.size) = some (S Z).size := by rw [size34, S_size, hfl]
        clear ha7 hf7 hbn7 hfr7 kx7 hx7 hnx7 hB7 r7 HPe HEnd hBr7 hz7 hW8 hb8 r8 ht8 hnt7 hd8 hd9 ho9 hc9 hs9 hW9 nxB ntB rx9 rt9 nn hN9 hBr9 hfn
        go_upto_region 16 with fail
        go_upto_region 17 with (first
          | (refine wpList_load_midZ rfl 25 _ rfl B 2 rfl G1.z _ st7 Tryz.underlying25 rfl szl1 ?_)
          | (refine wpList_store_S rfl _ _ rfl w7.heap.size rfl G1.z rfl hzl1 (by rw [isRowB_alloc_at _ _ _ _ _ rfl]; simp [S_size, zeroZ]) _ (setRow_alloc_at _ _ _ _ _ rfl) ?_))
        rw [← HW8.out]
        go_upto_region 18 with (first
          | (refine wpList_load_midZ rfl 25 _ rfl w.heap.size 0 rfl Z _ rs8 Tryz.underlying25 rfl szf ?_)
          | (refine wpList_store_mid rfl 25 _ _ rfl B 2 (S Z) rfl rfl th8 hs28 hone ?_))
        rw [HW9.out]
        clear st7 rs8 th8
        go_wp2_with fail
        refine (unhide HMv).mono ?_
        rintro e w10 ⟨rfl, X2, D2, vs3, hd10, hfr10⟩
        obtain ⟨kx10, hx10, hnx10⟩ := hfr10.keep HX9.out.1 HNx9.out.1
        obtain ⟨kt10, ht10, hnt10⟩ := hfr10.keep HX9.out.2 HNx9.out.2
        have hBr10 : Below W3.heap.size W3 w10 := HBr9.out.trans (hfr10.below HN9.out HD9.out.gn)
        have hN10 := hBr10.size
        have hB10 : Below w.heap.size w w10 := HB3.out.trans (hBr10.mono (Nat.le_of_lt HW3l.out))
        have HSd := hide (started_any hd10 hN10 HN3.out (HT.out w10 hB10) (by decide))
        have hwo := warm_open (z := Z) HFn.out HBk.out keep (lst junk)
        have hop : opB { b with z := Z, X := X2, D := D2, d := mvD (dCrash rd keep (lst junk)), vs := vs3 } = openE dOps (newG 1 Z) (engD (mvD (dCrash rd keep (lst junk)))) := by
          have e0 : (mvD (dCrash rd keep (lst junk))).wk = 0 := mvI_wk _ 2
          unfold opB
          simp only
          rw [e0, wrap_one]
        have hopk := opB_ok hd10 (by decide)
        rw [hop] at hopk
        obtain ⟨_, hwk11, _, _, _⟩ := hopk
        obtain ⟨hcode, ra, rn, rs, rd', hform⟩ := hwo
        have hg2 : (opB { b with z := Z, X := X2, D := D2, d := mvD (dCrash rd keep (lst junk)), vs := vs3 }).2.1 = { newG 1 Z with ar := ra, gn := rn, sz := rs, b := upd (newG 1 Z).b 0 (G1.b 1) } := by rw [hop, hform]
        have hcd2 : (opB { b with z := Z, X := X2, D := D2, d := mvD (dCrash rd keep (lst junk)), vs := vs3 }).1 = 0 := by rw [hop]; exact hcode
        have hwk2 : (opB { b with z := Z, X := X2, D := D2, d := mvD (dCrash rd keep (lst junk)), vs := vs3 }).2.2.wk = 1 := by
          rw [hop, hwk11]
          show (mvD (dCrash rd keep (lst junk))).wk + 1 = 1
          rw [show (mvD (dCrash rd keep (lst junk))).wk = 0 from mvI_wk _ 2]
          rfl
        obtain ⟨hs2, hs2f, hs2w⟩ := warm_second (b := { b with z := Z, X := X2, D := D2, d := mvD (dCrash rd keep (lst junk)), vs := vs3 }) (g0 := en.g) HO.out.z HO.out.b2 HO.out.c0 (by rw [HO.out.e1.c3, HO.out.b1]; rfl) hg2
        have HX10 := hide (And.intro hx10 ht10); have HNx10 := hide (And.intro hnx10 hnt10)
        have HRx10 := hide (kx10.trans HRx9.out)
        have HRt10 : Hid (RowI w10 w7.heap.size 25 G1.z) := HRt9.out.keep kt10
        have HBr10 := hide hBr10; have HN10 := hide hN10; have HD10 := hide hd10
        clear hd10 hfr10 kx10 hx10 hnx10 kt10 ht10 hnt10 hBr10 hN10 hB10 hop hcode hform hg2 hwk11 HMv HFn
        obtain ⟨OB, hOB⟩ : ∃ OB, OB = opB { b with z := Z, X := X2, D := D2, d := mvD (dCrash rd keep (lst junk)), vs := vs3 } := ⟨_, rfl⟩
        unfold SdPost at HSd
        rw [← hOB] at HSd hcd2 hwk2 hs2 hs2f hs2w
        have HS2 := hide hs2; have HS2f := hide hs2f; have HS2w := hide hs2w; have HWk2 := hide hwk2; have HCd2 := hide hcd2
        clear hOB hs2 hs2f hs2w hwk2 hcd2
        generalize mvD (dCrash rd keep (lst junk)) = DD at *
        go_wp2_with fail
        refine (unhide HSd).mono ?_
        rintro e w11 ⟨rfl, hfin⟩
        obtain ⟨vs4, oe, hbn11, hfr11, ⟨_, X3, E3, m3, v3, rfl⟩ | ⟨hne, _⟩⟩ := hfin
        rotate_left
        · exact absurd HCd2.out hne
        obtain ⟨kx11, hx11, hnx11⟩ := hfr11.keep HX10.out.1 HNx10.out.1
        obtain ⟨kt11, ht11, hnt11⟩ := hfr11.keep HX10.out.2 HNx10.out.2
        have hBr11 : Below W3.heap.size W3 w11 := HBr10.out.trans (hfr11.below HN10.out HD10.out.gn)
        have c11 := (hbn11.2.2 _ rfl).c1
        have HI20 : Hid (WI W3.heap.size B { b with z := Z, X := X2, D := D2, d := OB.2.2, vs := vs4 } ⟨X3, E3, OB.2.1, m3, v3⟩ 2 OB.2.1 (pcs xs) w11 0 w11) := WI.start hbn11 (Nat.le_refl _)
        have HBn11 := hide hbn11; have HBr11 := hide hBr11
        have HX11 := hide (And.intro hx11 ht11); have HNx11 := hide (And.intro hnx11 hnt11)
        have HRx11 := hide (kx11.trans HRx10.out)
        have HRt11 : Hid (RowI w11 w7.heap.size 25 G1.z) := HRt10.out.keep kt11
        have HZ11 : Hid (W3.heap.size ≤ w11.heap.size) := hBr11.size
        clear hbn11 hfr11 kx11 hx11 hnx11 kt11 ht11 hnt11 hBr11 HSd
        go_upto_region 25 with fail
        clear c11
        go_loopw [15] (fun i wr => ∃ j : Nat, j ≤ xs.length ∧ i = .int .i64 j ∧ Hid (WI W3.heap.size B { b with z := Z, X := X2, D := D2, d := OB.2.2, vs := vs4 } ⟨X3, E3, OB.2.1, m3, v3⟩ 2 OB.2.1 (pcs xs) w11 j wr)) (fun i _ => xs.length - (intOf i).toNat)
        case atStart => exact ⟨0, Nat.zero_le _, rfl, HI20.out⟩
        case round =>
          obtain ⟨j, hj, rfl, HI⟩ := hrel
          have hgeb := HBn11.out.ge
          have hbr : Below W3.heap.size W3 wr := by
            obtain ⟨m4, v4, _, f⟩ := HI.out.at'
            exact HBr11.out.trans (f.below HZ11.out hgeb)
          have hBw : Below w.heap.size w wr := HB3.out.trans (hbr.mono (Nat.le_of_lt HW3l.out))
          by_cases hlt : j < xs.length
          · have hlt' : (j : Int) < (xs.length : Int) := by omega
            obtain ⟨x, hx⟩ : ∃ x, xs[j]? = some x := ⟨_, List.getElem?_eq_getElem hlt⟩
            obtain ⟨G, o, c, hv, hG, hcell, hx0, hx1⟩ := (HH.out.up hBw).at' j x hx
            cases hv
            have hj0 : ¬ (j : Int) < 0 := by omega
            have HPk := hide (fun w' => pick_any x 400 w' hx0 hx1 (by decide) (by decide))
            have hpn : pickI x 400 = (((pickI x 400).toNat : Nat) : Int) := by have := pickI_bd x 400 (by decide); omega
            rw [hpn] at HPk
            have HSt := hide (HI.out.step (pcs_at hx) pcs_le (by have := HN.out; omega) HN3.out HZ11.out (HT.out wr hBw) (HWk2.out.trans HS2w.out.symm) HS2f.out)
            have HwJ : Hid ((j : Int) + 1 = ((j + 1 : Nat) : Int)) := by unfold Hid; omega
            clear hx hx0 hx1 hpn hbr hBw HI HI20 hgeb
            generalize (pickI x 400).toNat = n at *
            go_wp2_with fail
            refine (unhide HPk _).mono ?_
            rintro e w' ⟨rfl, hw⟩
            obtain rfl := hw.symm
            go_wp2_with fail
            refine (unhide HSt).mono ?_
            rintro e w12 ⟨rfl, h12⟩
            have HN12 := hide h12
            clear h12 HSt HPk hcell
            go_wp2_with fail
            exact ⟨⟨j + 1, hlt, congrArg (Value.int .i64) HwJ.out, HN12.out⟩, measM HwJ.out hlt⟩
          · have hlt' : ¬ (j : Int) < (xs.length : Int) := by omega
            have hje : j = (pcs xs).length := by unfold pcs; rw [List.length_map]; omega
            rw [hje] at HI
            obtain ⟨m4, v4, hbn12, hfr12⟩ := HI.out.done
            obtain ⟨kx12, hx12, hnx12⟩ := hfr12.keep HX11.out.1 HNx11.out.1
            obtain ⟨kt12, ht12, hnt12⟩ := hfr12.keep HX11.out.2 HNx11.out.2
            have q2 := HE2.out _ HS2.out
            have c12 := (hbn12.2.2 _ rfl).c1
            have HCt := hide (cCounts_any X3 E3 D2 (runsE OB.2.1 (pcs xs)) m4 v4 wr (hbn12.2.2 _ rfl).x (hbn12.2.2 _ rfl).eg)
            rw [q2.c0, q2.c1, q2.c2, q2.c3, q2.b1, HE1.out.c3, HLe.out, HC0.out] at HCt
            have st12 := hbn12.1.st
            have hB12 := hbn12.1.lt
            have rx12 := kx12.trans HRx11.out
            have rt12 : RowI wr w7.heap.size 25 G1.z := HRt11.out.keep kt12
            have hzz : (runsE OB.2.1 (pcs xs)).z = G1.z := q2.z
            simp only [hzz] at st12
            have HSt12 := hide st12; have HRx12 := hide rx12; have HRt12 := hide rt12; have HBw := hide hBw
            clear hbn12 hfr12 kx12 hnx12 kt12 hnt12 q2 st12 rx12 rt12 hzz hbr hBw HI HI20 hgeb hje
            go_wp2_with fail
            refine (unhide HCt).mono ?_
            rintro e w13 ⟨rfl, hb13⟩
            have hz13 := hb13.size
            obtain ⟨W14, hW14⟩ : ∃ W14, W14 = w13.alloc (.cells #[.int .i64 (C0 : Int), .int .i64 (L : Int), .int .i64 0, .int .i64 0, .int .i64 0] 45) := ⟨_, rfl⟩
            have hb14 : Below wr.heap.size wr W14 := by rw [hW14]; exact hb13.alloc hz13 _
            have r14 : W14.heap[w13.heap.size]? = some (.cells #[.int .i64 (C0 : Int), .int .i64 (L : Int), .int .i64 0, .int .i64 0, .int .i64 0] 45 (0, 0)) := by rw [hW14, _root_.Go.heap_alloc_new]
            have y0 : W14.cell? ⟨w13.heap.size, 0, none⟩ = some (.int .i64 (C0 : Int)) := cell_row r14 0
            have y1 : W14.cell? ⟨w13.heap.size, 1, none⟩ = some (.int .i64 (L : Int)) := cell_row r14 1
            have y2 : W14.cell? ⟨w13.heap.size, 2, none⟩ = some (.int .i64 0) := cell_row r14 2
            have y3 : W14.cell? ⟨w13.heap.size, 3, none⟩ = some (.int .i64 0) := cell_row r14 3
            have y4 : W14.cell? ⟨w13.heap.size, 4, none⟩ = some (.int .i64 0) := cell_row r14 4
            have rx14 := (hb14.block _ hx12).trans HRx12.out
            have x0 : W14.cell? ⟨w5.heap.size, 0, none⟩ = some (.int .i64 (C0 : Int)) := cell_row rx14 0
            have x1 : W14.cell? ⟨w5.heap.size, 1, none⟩ = some (.int .i64 0) := cell_row rx14 1
            have x2 : W14.cell? ⟨w5.heap.size, 2, none⟩ = some (.int .i64 0) := cell_row rx14 2
            have x3 : W14.cell? ⟨w5.heap.size, 3, none⟩ = some (.int .i64 (L : Int)) := cell_row rx14 3
            have x4 : W14.cell? ⟨w5.heap.size, 4, none⟩ = some (.int .i64 (L : Int)) := cell_row rx14 4
            have rt14 : RowI W14 w7.heap.size 25 G1.z := HRt12.out.keep (hb14.block _ ht12)
            have gt := range_row rt14 0 138 (by omega)
            rw [List.drop_zero, List.take_of_length_le (by omega)] at gt
            have gB : W14.rangeAt B 2 (G1.z.map (Value.int .i64)) := fun j u q => (World.cell?_of_block (hb14.block B hB12)).trans (HSt12.out j u q)
            have hnb1 : ((C0 : Int) == (C0 : Int)) = true := by simp
            have hnb2 : ((L : Int) == (L : Int)) = true := by simp
            have eqs := eqS G1.z hzl1
            have HW14 := hide hW14; have HGt := hide gt; have HGB := hide gB
            have HFin : Hid (Below w.heap.size w W14) := HBw.out.trans (hb14.mono HBw.out.size)
            clear hb13 hW14 hb14 r14 rx14 rt14 gt gB HCt c12
            go_upto_region 31 with fail
            rw [← HW14.out]
            refine wp_region_quiet_lit (by kernel_rfl) (by kernel_rfl) ?_
            repeat (first
              | (refine wpQuiet_load_Z rfl 25 _ rfl w7.heap.size 0 rfl G1.z _ (range_drew HGt.out) Tryz.underlying25 rfl szl1 ?_)
              | (refine wpQuiet_load_Z rfl 25 _ rfl B 2 rfl G1.z _ (range_drew HGB.out) Tryz.underlying25 rfl szl1 ?_)
              | go_big_quiet_step (fail)
              | quiet_step (fail))
            refine wpQuiet_nil ?_
            rintro _ ⟨nq, rfl⟩
            go_wp2_with fail
            go_ret
            exact ⟨rfl, below_drewN HFin.out _⟩
end Go.Proofs.YtmmflekajbeamabGreatDoor

namespace Go.Proofs.YtmmflekajbeamabGreatDoor
open Go.ChangeShapes Go.WideShapes Go.ChangeAt Go.WideMaps Go.WideElems Go.RowKit

theorem own : ownKnob Tryz.prog.godebug = none := by kernel_rfl
theorem laidOut : laidOutB Tryz.prog = true := by kernel_rfl
theorem gRows : Tryz.prog.globalNamed "crib/code.rows" = some 0 := by kernel_rfl
theorem tRows : (Tryz.prog.globals[0]?).map (·.type) = some 276 := by kernel_rfl
theorem c114 : Tryz.prog.cellsOf 254 = 3 := by kernel_rfl
theorem c132 : Tryz.prog.cellsOf 276 = 36 := by kernel_rfl
theorem c9 : Tryz.prog.cellsOf 9 = 1 := by kernel_rfl
theorem cells3t : Tryz.prog.cellsOf 3 = 1 := by kernel_rfl

set_option maxRecDepth 100000 in
/-- A row of the table, read: its three cells. -/
theorem row_cells {H : Type} {enc : TypeId × Value → H} {W : World} {base : Nat} {spare : Nat → Bool} {held : Bool} {m : Nat} {cs : List Value} {x : DataW H × List MemPlace} {a b : List UInt8} {n : Int}
    (h : DataW.trod enc Tryz.prog W base spare held m 254 cs = some x) (hx : x.1 = .agg [.lit (.string a), .lit (.int .i64 n), .lit (.string b)]) : cs = [.string ⟨a.toArray⟩, .int .i64 n, .string ⟨b.toArray⟩] := by
  obtain ⟨y0, y1, y2, k, rfl, hl, h0, h1, h2⟩ := Go.Deep.trod_struct3 Tryz.underlying254 h
  rw [c114] at hl
  match cs, hl with
  | [v0, v1, v2], _ =>
    obtain ⟨s0, e0, f0, _⟩ := DataW.trod_string Tryz.underlying9 h0
    obtain ⟨k1, e1, f1, _⟩ := DataW.trod_int Tryz.underlying3 h1
    obtain ⟨s2, e2, f2, _⟩ := DataW.trod_string Tryz.underlying9 h2
    subst f0 f1 f2
    simp [c9, cells3t] at e0 e1 e2
    simp at hx
    obtain ⟨rfl, rfl, rfl⟩ := hx
    subst e0 e1 e2
    rfl

theorem chunk {cs : List Value} {rest : List Value} {i : Nat} (a b c : Value) (h : (cs.drop i).take 3 = [a, b, c]) (hr : cs.drop (i + 3) = rest) : cs.drop i = a :: b :: c :: rest := by
  have := List.take_append_drop 3 (cs.drop i)
  rw [h, List.drop_drop, hr] at this
  exact this.symm

set_option maxRecDepth 100000 in
theorem of_laid {W : World} (h : laidMetH Tryz.prog [("crib/code.rows", Rows.laid_crib_code_rows)] W) : Tab W := by
  rw [MakeChecks.laidMetH_plain _ _ _ (by kernel_rfl)] at h
  obtain ⟨ps, ⟨g0, t0, cs0, f0, p0, q0, hg0, ht0, hv0, hd0, _⟩, _, _⟩ := h
  obtain rfl := Option.some.inj (gRows.symm.trans hg0)
  obtain rfl := Option.some.inj (tRows.symm.trans ht0)
  obtain ⟨xs, m1, rfl, hx1, hlen, hn, hel⟩ := DataW.trod_array Tryz.underlying276 hd0
  rw [c114] at hel
  rw [c132] at hlen
  simp only [Prod.mk.injEq] at hx1
  have hx := hx1.1
  simp only [Rows.laid_crib_code_rows, DataW.agg.injEq] at hx
  match xs, hn, hx, hel with
  | [x0, x1, x2, x3, x4, x5, x6, x7, x8, x9, x10, x11], _, hx, hel =>
    simp only [List.map_cons, List.map_nil, List.cons.injEq, and_true] at hx
    obtain ⟨d0, d1, d2, d3, d4, d5, d6, d7, d8, d9, d10, d11⟩ := hx
    have r0 := row_cells (hel 0 (by decide)) d0.symm
    have r1 := row_cells (hel 1 (by decide)) d1.symm
    have r2 := row_cells (hel 2 (by decide)) d2.symm
    have r3 := row_cells (hel 3 (by decide)) d3.symm
    have r4 := row_cells (hel 4 (by decide)) d4.symm
    have r5 := row_cells (hel 5 (by decide)) d5.symm
    have r6 := row_cells (hel 6 (by decide)) d6.symm
    have r7 := row_cells (hel 7 (by decide)) d7.symm
    have r8 := row_cells (hel 8 (by decide)) d8.symm
    have r9 := row_cells (hel 9 (by decide)) d9.symm
    have r10 := row_cells (hel 10 (by decide)) d10.symm
    have r11 := row_cells (hel 11 (by decide)) d11.symm
    have e12 : cs0.toList.drop 36 = [] := List.drop_of_length_le (by omega)
    have e11 := chunk _ _ _ r11 e12
    have e10 := chunk _ _ _ r10 e11
    have e9 := chunk _ _ _ r9 e10
    have e8 := chunk _ _ _ r8 e9
    have e7 := chunk _ _ _ r7 e8
    have e6 := chunk _ _ _ r6 e7
    have e5 := chunk _ _ _ r5 e6
    have e4 := chunk _ _ _ r4 e5
    have e3 := chunk _ _ _ r3 e4
    have e2 := chunk _ _ _ r2 e3
    have e1 := chunk _ _ _ r1 e2
    have e0 := chunk _ _ _ r0 e1
    have ec : cs0 = tabA := by
      apply Array.toList_inj.1
      have : cs0.toList.drop (0 * 3) = cs0.toList := rfl
      rw [← this, e0]
      rfl
    subst ec
    unfold World.var? at hv0
    rw [gRows] at hv0
    simp only [Option.bind_some] at hv0
    unfold Tab
    split at hv0
    · rename_i c t fr hc
      cases hv0
      exact ⟨t, fr, hc⟩
    · cases hv0

/-- The heap that the program's own start-up leaves meets the condition. -/
theorem door_met (os : Os) (args : Array Value) : laidMetH Tryz.prog [("crib/code.rows", Rows.laid_crib_code_rows)] ((World.doorLaid Tryz.prog 26 os).forCall (fun _ _ => 0) ⟨#[], args, []⟩).memory :=
  laidMetH_of_parts3 (fuel := 8) (laidMet_of_run' 8 (by kernel_rfl) (by kernel_rfl)) (by kernel_rfl) (by kernel_rfl)
end Go.Proofs.YtmmflekajbeamabGreatDoor

namespace Go.Proofs.YtmmflekajbeamabGreatDoor
open Go.ChangeShapes Go.WideShapes Go.ChangeAt Go.WideMaps Go.WideElems Go.RowKit

section
variable {H : Type} {enc : TypeId × Value → H} {w : World} {base : Nat} {sp : Nat → Bool} {held : Bool}
theorem c_int : Tryz.prog.cellsOf 3 = 1 := by kernel_rfl
theorem bulk_pos (d : DataW H) : 1 ≤ Rows.uptoBulk d := by
  cases d with
  | lit l => cases l <;> simp [Rows.uptoBulk]
  | _ => simp [Rows.uptoBulk]
theorem bulk_len : ∀ l : List (DataW H), l.length ≤ Rows.uptoBulkAll l
  | [] => Nat.zero_le _
  | x :: l => by
    have h1 := bulk_pos x
    have h2 := bulk_len l
    simp only [Rows.uptoBulkAll, List.length_cons]
    omega
end
end Go.Proofs.YtmmflekajbeamabGreatDoor
