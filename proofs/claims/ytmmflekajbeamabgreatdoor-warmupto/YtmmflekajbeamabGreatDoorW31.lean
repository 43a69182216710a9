/-
  The engine: Run, walked.
  The engine: Compact, Known, Persist.
  The engine: State, Counts; package crib's calls.
  The document's engine: where words stand in a list (place).
  The document's engine: a list with what another tells laid in (with).
  The document's engine: the frames of entries (frames).
  The document's engine, as it lies in memory, with its device; what a call leaves; turned, over.
  The document's lists against the program's books: the same words, the same plans, in the same places.
-/
import Derived.Test.YtmmflekajbeamabGreatDoorW30
namespace Go.Proofs.YtmmflekajbeamabGreatDoor
open Go.RowKit Go.Maps Go.WideMaps

set_option maxRecDepth 100000 in
set_option maxHeartbeats 2000000 in
theorem eRun_over (E D : Nat) (g : EgN) (d : DvN) (m v vs : Nat → Value) (fuel : Int) (w : World) (h : EdAt E D g d m v vs w) (ho : overE g d.wk = true) :
    Calls Tryz.prog 39 #[.pointer (some ⟨E, 0, none⟩), .int .i64 fuel] w fun e' w' => e' = .returned (.tuple #[.int .i64 0, .int .i64 17]) ∧ Below w.heap.size w w' := by
  have HO := hide (isOver_any E D g d m v vs w h)
  rw [ho] at HO
  clear h
  go_enter Tryz.func39, Tryz.ntmps39
  go_wp2_with fail
  refine (unhide HO).mono ?_
  rintro e w1 ⟨rfl, n, rfl⟩
  go_wp2_with fail
  go_ret2
  exact ⟨rfl, below_drewN (Below.refl _ _) _⟩
theorem meas_n {fuel n k : Nat} (h : n < fuel) (hk : 1 ≤ k) : fuel - (intOf (.int .i64 ((n + k : Nat) : Int))).toNat < fuel - (intOf (.int .i64 (n : Int))).toNat := by
  have h1 : (intOf (.int .i64 ((n + k : Nat) : Int))).toNat = n + k := by simp [intOf]; omega
  have h2 : (intOf (.int .i64 (n : Int))).toNat = n := by simp [intOf]
  rw [h1, h2]
  omega
set_option maxRecDepth 100000 in
set_option maxHeartbeats 8000000 in
theorem eRun_ok (E D : Nat) (g : EgN) (d : DvN) (m v vs : Nat → Value) (fuel : Nat) (w : World) (k : Nat) (h : EdAt E D g d m v vs w) (ht : Tab w) (ho : overE g d.wk = false) (hf : fuel ≤ 2000) (hg : RunG g k) (hk : k ≤ 99999900000) :
    Calls Tryz.prog 39 #[.pointer (some ⟨E, 0, none⟩), .int .i64 (fuel : Int)] w fun e' w' => e' = .returned (.tuple #[.int .i64 ((runE g fuel).2 : Int), .int .i64 0]) ∧ GPost E D m v w (runE g fuel).1 w' := by
  have HO := hide (isOver_any E D g d m v vs w h)
  rw [ho] at HO
  have hE : 0 < E := (h.pos ht).1
  have HEg := hide h.eg; have HTw := hide ht; have HG := hide hg; have HE := hide hE; have HK := hide hk; have HF := hide hf
  have hf0 : ¬ (fuel : Int) < 0 := by omega
  have hf1 : ¬ (2000 : Int) < (fuel : Int) := by omega
  obtain ⟨RR, hRR⟩ : ∃ RR, RR = runE g fuel := ⟨_, rfl⟩
  rw [← hRR]
  have HRR := hide hRR
  clear h ht ho hg hE hRR hk
  go_enter Tryz.func39, Tryz.ntmps39
  go_wp2_with fail
  refine (unhide HO).mono ?_
  rintro e w1 ⟨rfl, nq, rfl⟩
  have H0 : Hid (GPost E D m v w g (w.drewN nq)) := GPost.of_below HEg.out (below_drewN (Below.refl _ _) _)
  clear HO
  go_wp2_with fail
  go_loopw [6] (fun i wr => ∃ (n : Nat) (g' : EgN), i = .int .i64 (n : Int) ∧ n ≤ fuel ∧ Hid (GPost E D m v w g' wr ∧ RunG g' (k + 4 * n) ∧ RR = runL (fuel + 1 - n) g' fuel n)) (fun i _ => fuel - (intOf i).toNat)
  case atStart => exact ⟨0, g, rfl, Nat.zero_le _, H0.out, HG.out, HRR.out⟩
  case round =>
    obtain ⟨n, g', rfl, hn, HI⟩ := hrel
    obtain ⟨⟨m1, v1, e1, c1, o1⟩, hg1, hr1⟩ := HI.out
    have y := e1.stop
    have hT1 : Tab wr := HTw.out.chg HEg.out HE.out c1
    have HC1 := hide c1; have HO1 := hide o1; have HG1 := hide hg1; have HR1 := hide hr1
    by_cases hst : gz g'.z 137 = 0
    · by_cases hlt : n < fuel
      · have hlt' : (n : Int) < (fuel : Int) := by omega
        rw [hst] at y
        have HAd := hide (advance_any E D g' m1 v1 (fuel - n) wr (k + 4 * n) e1 hT1 HE.out hg1.z hst hg1.rd hg1.rn (by have := HK.out; have := HF.out; omega) (hg1.pl 0 (by decide)))
        obtain ⟨q1, q2, q3⟩ := advE_ok hg1 hst (fuel - n)
        have hR2 : RR = runL (fuel - n) (advE g' (fuel - n)).1 fuel (n + (advE g' (fuel - n)).2) := by
          rw [hr1, show fuel + 1 - n = (fuel - n) + 1 by omega, runL, if_pos ⟨hst, hlt⟩]
        have q4 := q3 (by omega)
        have hR3 : RR = runL (fuel + 1 - (n + (advE g' (fuel - n)).2)) (advE g' (fuel - n)).1 fuel (n + (advE g' (fuel - n)).2) := by
          rw [hR2]
          exact runL_more _ _ _ _ _ _ q1 (by omega) (by omega) (by omega)
        have hk3 : RunG (advE g' (fuel - n)).1 (k + 4 * (n + (advE g' (fuel - n)).2)) := ⟨q1.z, q1.rd, q1.rn.more (by omega), q1.pl⟩
        have hsub : ((fuel - n : Nat) : Int) = (fuel : Int) - (n : Int) := by omega
        rw [hsub] at HAd
        have hle : n + (advE g' (fuel - n)).2 ≤ fuel := by omega
        have HQ := hide (And.intro hR3 (And.intro hk3 (And.intro hle q2)))
        have hadd : ((advE g' (fuel - n)).2 : Int) ≤ 2000 := by have := HF.out; omega
        clear e1 c1 o1 hg1 hr1 hT1 q1 q2 q3 q4 hR2 hR3 hk3 hle hsub
        generalize advE g' (fuel - n) = AD at *
        generalize fuel - n = FN at *
        go_wp2_with fail
        refine (unhide HAd).mono ?_
        rintro e w2 ⟨rfl, hg2⟩
        have HG2 : Hid (GPost E D m v w AD.1 w2) := GPost.seq HC1.out HO1.out hg2
        clear hg2 HAd
        go_wp2_with fail
        exact ⟨⟨n + AD.2, AD.1, rfl, HQ.out.2.2.1, HG2.out, HQ.out.2.1, HQ.out.1⟩, meas_n hlt HQ.out.2.2.2⟩
      · have hlt' : ¬ (n : Int) < (fuel : Int) := by omega
        rw [hst] at y
        have HP : Hid (RR = (g', n)) := by
          unfold Hid
          rw [hr1, show fuel + 1 - n = (fuel - n) + 1 by omega, runL, if_neg (fun q => hlt q.2)]
        clear e1 c1 o1 hg1 hr1 hT1
        go_wp2_with fail
        go_ret2
        rw [HP.out]
        exact ⟨rfl, HI.out.1⟩
    · have hst' : (gz g'.z 137 == 0) = false := by simpa using hst
      have HP : Hid (RR = (g', n)) := by
        unfold Hid
        rw [hr1, show fuel + 1 - n = (fuel - n) + 1 by omega, runL, if_neg (fun q => hst q.1)]
      generalize gz g'.z 137 = ST at *
      clear e1 c1 o1 hg1 hr1 hT1 hst
      go_wp2_with fail
      go_ret2
      rw [HP.out]
      exact ⟨rfl, HI.out.1⟩
end Go.Proofs.YtmmflekajbeamabGreatDoor

namespace Go.Proofs.YtmmflekajbeamabGreatDoor
open Go.RowKit Go.Maps Go.WideMaps

set_option maxRecDepth 100000 in
set_option maxHeartbeats 2000000 in
theorem eCompact_any (E D : Nat) (g : EgN) (d : DvN) (m v vs : Nat → Value) (w : World) (h : EdAt E D g d m v vs w) (ht : Tab w) (hok : EgOK g) :
    Calls Tryz.prog 74 #[.pointer (some ⟨E, 0, none⟩)] w (EPost E D m v vs w (if overE g d.wk = true then (17, g, d) else anewE dOps g d (1 - g.ar)).1 (if overE g d.wk = true then (17, g, d) else anewE dOps g d (1 - g.ar)).2.1 (if overE g d.wk = true then (17, g, d) else anewE dOps g d (1 - g.ar)).2.2) := by
  have HO := hide (isOver_any E D g d m v vs w h)
  have HH := hide h; have HTw := hide ht
  have HWr := hide (fun n => writeAnew_any E D g d m v vs (w.drewN n) (h.drewN n) (ht.below ht.pos (below_drewN (Below.refl _ _) n)) hok)
  cases ho : overE g d.wk
  · rw [ho] at HO
    rw [if_neg (by decide)]
    generalize anewE dOps g d (1 - g.ar) = R at *
    clear h ht hok ho
    go_enter Tryz.func74, Tryz.ntmps74
    go_wp2_with fail
    refine (unhide HO).mono ?_
    rintro e w1 ⟨rfl, n, rfl⟩
    go_wp2_with fail
    refine (unhide HWr n).mono ?_
    rintro e w2 ⟨rfl, m2, v2, vs2, k2, f2⟩
    have HK := hide k2; have HF := hide ((EdFr.of_below (below_drewN (Below.refl w.heap.size w) n)).trans f2)
    clear k2 f2
    go_wp2_with fail
    go_ret
    exact ⟨rfl, m2, v2, vs2, HK.out, HF.out⟩
  · rw [ho] at HO
    rw [if_pos rfl]
    clear h ht hok ho HWr
    go_enter Tryz.func74, Tryz.ntmps74
    go_wp2_with fail
    refine (unhide HO).mono ?_
    rintro e w1 ⟨rfl, n, rfl⟩
    go_wp2_with fail
    go_ret
    exact ⟨rfl, m, v, vs, HH.out.drewN n, EdFr.of_below (below_drewN (Below.refl _ _) n)⟩
set_option maxRecDepth 100000 in
theorem eKnown_any (E D : Nat) (g : EgN) (m v : Nat → Value) (w : World) (h : EgAt E D g m v w) (hl : (g.b 0).length ≤ 1000000000000) :
    Calls Tryz.prog 40 #[.pointer (some ⟨E, 0, none⟩)] w fun e' w' => ∃ u, e' = .returned u ∧ w'.ownsRow w.heap.size 71 2 u (knT (g.b 0)).length (knCs (knT (g.b 0))) ∧ Below w.heap.size w w' := by
  have b0 := h.bk 0 (by decide)
  have c1 := b0.c1
  have HC := hide (kclone_any E (v 0) (knT (g.b 0)) w (by rw [knT_len]; exact b0.ls) (by rw [knT_len]; exact hl))
  obtain ⟨a, c, e⟩ := owns_len b0.ls
  rw [e] at c1 HC
  clear h b0 e
  go_enter Tryz.func40, Tryz.ntmps40
  go_wp2_with fail
  refine (unhide HC).mono ?_
  rintro e w1 ⟨u, rfl, ho, hb⟩
  have HO := hide ho; have HB := hide hb
  clear ho hb HC
  go_wp2_with fail
  go_ret
  exact ⟨u, rfl, HO.out, HB.out⟩
def persE {α : Type} (o : Dev α) (g : EgN) (d : α) : Int × EgN × α :=
  if (g.b 1).length = 0 then (0, g, d)
  else if 1500 < g.sz + (entsT (knT (g.b 1))).length then anewE o g d (1 - g.ar)
  else if (layE o g d (g.ar : Int) (entsT (knT (g.b 1)))).1 = 0 then (0, learnE { g with sz := g.sz + (entsT (knT (g.b 1))).length }, (layE o g d (g.ar : Int) (entsT (knT (g.b 1)))).2.2)
  else (15, failE g, (layE o g d (g.ar : Int) (entsT (knT (g.b 1)))).2.2)
set_option maxRecDepth 100000 in
set_option maxHeartbeats 4000000 in
theorem ePersist_any (E D : Nat) (g : EgN) (d : DvN) (m v vs : Nat → Value) (w : World) (h : EdAt E D g d m v vs w) (ht : Tab w) (hok : EgOK g) (hsz : g.sz ≤ 1500) (ho : overE g d.wk = false) :
    Calls Tryz.prog 35 #[.pointer (some ⟨E, 0, none⟩)] w (EPost E D m v vs w (persE dOps g d).1 (persE dOps g d).2.1 (persE dOps g d).2.2) := by
  have HO := hide (isOver_any E D g d m v vs w h)
  rw [ho] at HO
  have HH := hide h; have HTw := hide ht; have HOk := hide hok
  have HTb : Hid (∀ m' v' vs' w', EdFr E D m v vs m' v' vs' w w' → Tab w') := fun m' v' vs' w' hf => h.tab ht hf
  have b1 := h.eg.bk 1 (by decide)
  have c1 : w.cell? ⟨E, 152, none⟩ = some (v 1) := b1.c1
  have HOw := hide b1.ls
  obtain ⟨va, vc, hv⟩ := owns_len b1.ls
  rw [hv] at c1 HOw
  have HEn : Hid (∀ w', Below w.heap.size w w' → Calls Tryz.prog 56 #[.slice va (g.b 1).length vc] w' fun e' w'' => e' = .returned (.string (bya (entsT (knT (g.b 1))))) ∧ Below w'.heap.size w' w'') := fun w' hb => entries_any E _ (knT (g.b 1)) w' (by rw [knT_len]; exact own_grow HOw.out hb) (fun x hx => ⟨knT_sh b1.ok x hx, by
    obtain ⟨k, hk, rfl⟩ := List.mem_map.1 hx
    exact hok.sh 1 (by decide) k hk⟩) (by rw [knT_len]; have := hok.few 1 (by decide); omega)
  have c148 : w.cell? ⟨E, 148, none⟩ = some (.int .i64 (g.sz : Int)) := h.eg.sc 148 (.inr (by decide))
  have c146 : w.cell? ⟨E, 146, none⟩ = some (.int .i64 (g.ar : Int)) := h.eg.sc 146 (.inr (by decide))
  have hel : (entsT (knT (g.b 1))).length ≤ 208 * 200000000000 := by
    have h1 := entsT_len (knT (g.b 1))
    rw [knT_len] at h1
    have := hok.few 1 (by decide)
    omega
  by_cases h0 : (g.b 1).length = 0
  · have e : persE dOps g d = (0, g, d) := if_pos h0
    rw [e]
    have h0' : ((g.b 1).length : Int) = 0 := by omega
    rw [h0] at c1
    clear h ht hok ho hsz b1 hv e hel HEn h0 h0'
    go_enter Tryz.func35, Tryz.ntmps35
    go_wp2_with fail
    refine (unhide HO).mono ?_
    rintro e w1 ⟨rfl, n, rfl⟩
    go_wp2_with fail
    go_ret
    exact ⟨rfl, m, v, vs, HH.out.drewN n, EdFr.of_below (below_drewN (Below.refl _ _) n)⟩
  have h0' : (((g.b 1).length : Int) == 0) = false := beq_eq_false_iff_ne.2 (by omega)
  have HSz : Hid ((bya (entsT (knT (g.b 1)))).size = (entsT (knT (g.b 1))).length) := bya_size _
  have hwr : wrap64 ((g.sz : Int) + ((bya (entsT (knT (g.b 1)))).size : Int)) = (g.sz : Int) + ((bya (entsT (knT (g.b 1)))).size : Int) := by rw [HSz.out]; unfold wrap64; omega
  by_cases hl : 1500 < g.sz + (entsT (knT (g.b 1))).length
  · have e : persE dOps g d = anewE dOps g d (1 - g.ar) := by unfold persE; rw [if_neg h0, if_pos hl]
    rw [e]
    have hl' : (1500 : Int) < (g.sz : Int) + ((bya (entsT (knT (g.b 1)))).size : Int) := by rw [HSz.out]; omega
    have HWr := hide (fun w' (h' : EdAt E D g d m v vs w') (t' : Tab w') => writeAnew_any E D g d m v vs w' h' t' hok)
    generalize anewE dOps g d (1 - g.ar) = R at *
    generalize bya (entsT (knT (g.b 1))) = FR at *
    generalize (g.b 1).length = L1 at *
    clear h ht hok ho hsz b1 hv e hel h0 hl
    go_enter Tryz.func35, Tryz.ntmps35
    go_wp2_with fail
    refine (unhide HO).mono ?_
    rintro e w1 ⟨rfl, n, rfl⟩
    go_wp2_with fail
    refine (unhide HEn _ (below_drewN (Below.refl _ _) n)).mono ?_
    rintro e w2 ⟨rfl, hb2'⟩
    have hb2 : Below w.heap.size w w2 := (below_drewN (Below.refl _ _) n).trans hb2'
    have k2 := HH.out.up hb2
    have d148 : w2.cell? ⟨E, 148, none⟩ = some (.int .i64 (g.sz : Int)) := k2.eg.sc 148 (.inr (by decide))
    have HF2 : Hid (EdFr E D m v vs m v vs w w2) := EdFr.of_below hb2
    have HW2 := hide (HWr.out w2 k2 (HTb.out _ _ _ _ HF2.out))
    clear hb2 hb2' k2 HEn c1 c146 c148
    go_wp2_with fail
    refine (unhide HW2).mono ?_
    rintro e w3 ⟨rfl, m3, v3, vs3, k3, f3⟩
    have HK := hide k3; have HF := hide (HF2.out.trans f3)
    clear k3 f3
    go_wp2_with fail
    go_ret
    exact ⟨rfl, m3, v3, vs3, HK.out, HF.out⟩
  have hl' : ¬ (1500 : Int) < (g.sz : Int) + ((bya (entsT (knT (g.b 1)))).size : Int) := by rw [HSz.out]; omega
  have eP : persE dOps g d = if (layE dOps g d (g.ar : Int) (entsT (knT (g.b 1)))).1 = 0 then (0, learnE { g with sz := g.sz + (entsT (knT (g.b 1))).length }, (layE dOps g d (g.ar : Int) (entsT (knT (g.b 1)))).2.2) else (15, failE g, (layE dOps g d (g.ar : Int) (entsT (knT (g.b 1)))).2.2) := by unfold persE; rw [if_neg h0, if_neg hl]
  rw [eP]
  have HLy := hide (fun w' (h' : EdAt E D g d m v vs w') => elay_any E D g d m v vs g.ar (bya (entsT (knT (g.b 1)))) w' h' (by rw [bya_size]; omega))
  rw [lst_bya] at HLy
  have hcs := layE_cases dOps g d (g.ar : Int) (entsT (knT (g.b 1)))
  generalize layE dOps g d (g.ar : Int) (entsT (knT (g.b 1))) = rL at *
  obtain ⟨a2, g2, d2⟩ := rL
  simp only at hcs HLy ⊢
  rcases hcs with ⟨rfl, rfl⟩ | ⟨rfl, rfl⟩
  · rw [if_pos rfl]
    simp only
    rw [← HSz.out]
    have HLn := hide (fun m' v' w' (h' : EgAt E D { g2 with sz := g2.sz + (bya (entsT (knT (g2.b 1)))).size } m' v' w') (ht' : Tab w') => learn_any E D _ m' v' w' h' ht' ⟨hok.ar, hok.gn, hok.few, hok.sh⟩)
    have HSs := hide (fun (d' : DvN) (m' v' vs' : Nat → Value) w' (h' : EdAt E D g2 d' m' v' vs' w') => h'.set 148 (.inr (by decide)) { g2 with sz := g2.sz + (bya (entsT (knT (g2.b 1)))).size } rfl rfl (scV_sz D g2 _) (.int .i64 ((g2.sz : Int) + ((bya (entsT (knT (g2.b 1)))).size : Int))) rfl)
    generalize bya (entsT (knT (g2.b 1))) = FR at *
    generalize (g2.b 1).length = L1 at *
    clear h ht hok ho hsz b1 hv eP hel h0 hl
    go_enter Tryz.func35, Tryz.ntmps35
    go_wp2_with fail
    refine (unhide HO).mono ?_
    rintro e w1 ⟨rfl, n, rfl⟩
    go_wp2_with fail
    refine (unhide HEn _ (below_drewN (Below.refl _ _) n)).mono ?_
    rintro e w2 ⟨rfl, hb2'⟩
    have hb2 : Below w.heap.size w w2 := (below_drewN (Below.refl _ _) n).trans hb2'
    have k2 := HH.out.up hb2
    have d148 : w2.cell? ⟨E, 148, none⟩ = some (.int .i64 (g2.sz : Int)) := k2.eg.sc 148 (.inr (by decide))
    have d146 : w2.cell? ⟨E, 146, none⟩ = some (.int .i64 (g2.ar : Int)) := k2.eg.sc 146 (.inr (by decide))
    have HF2 : Hid (EdFr E D m v vs m v vs w w2) := EdFr.of_below hb2
    have HL2 := hide (HLy.out w2 k2)
    clear hb2 hb2' k2 HEn c1 c146 c148
    go_wp2_with fail
    refine (unhide HL2).mono ?_
    rintro e w3 ⟨rfl, m3, v3, vs3, k3, f3⟩
    have e148 : w3.cell? ⟨E, 148, none⟩ = some (.int .i64 (g2.sz : Int)) := k3.eg.sc 148 (.inr (by decide))
    have z148 := k3.eg.fz 148
    have HK3 := hide k3; have HF3 := hide (HF2.out.trans f3)
    clear k3 f3 HL2 d148 d146
    go_wp2_with fail
    obtain ⟨k4, f4⟩ := HSs.out _ _ _ _ _ HK3.out
    have HF4 := hide (HF3.out.trans f4)
    have HK4 := hide k4
    refine (unhide HLn _ _ _ k4.eg (HTb.out _ _ _ _ HF4.out)).mono ?_
    rintro e w5 ⟨rfl, m5, v5, he5, hc5, eo5⟩
    have HE5 := hide (HK4.out.egs he5 hc5 eo5)
    clear k4 f4 he5 hc5 eo5 HLn
    go_wp2_with fail
    go_ret
    exact ⟨rfl, m5, v5, vs3, HE5.out.1, HF4.out.trans HE5.out.2⟩
  · rw [if_neg (by decide)]
    simp only
    generalize bya (entsT (knT (g.b 1))) = FR at *
    generalize (g.b 1).length = L1 at *
    clear h ht hok ho hsz b1 hv eP hel h0 hl
    go_enter Tryz.func35, Tryz.ntmps35
    go_wp2_with fail
    refine (unhide HO).mono ?_
    rintro e w1 ⟨rfl, n, rfl⟩
    go_wp2_with fail
    refine (unhide HEn _ (below_drewN (Below.refl _ _) n)).mono ?_
    rintro e w2 ⟨rfl, hb2'⟩
    have hb2 : Below w.heap.size w w2 := (below_drewN (Below.refl _ _) n).trans hb2'
    have k2 := HH.out.up hb2
    have d148 : w2.cell? ⟨E, 148, none⟩ = some (.int .i64 (g.sz : Int)) := k2.eg.sc 148 (.inr (by decide))
    have d146 : w2.cell? ⟨E, 146, none⟩ = some (.int .i64 (g.ar : Int)) := k2.eg.sc 146 (.inr (by decide))
    have HF2 : Hid (EdFr E D m v vs m v vs w w2) := EdFr.of_below hb2
    have HL2 := hide (HLy.out w2 k2)
    clear hb2 hb2' k2 HEn c1 c146 c148
    go_wp2_with fail
    refine (unhide HL2).mono ?_
    rintro e w3 ⟨rfl, m3, v3, vs3, k3, f3⟩
    have HK3 := hide k3; have HF3 := hide (HF2.out.trans f3)
    clear k3 f3 HL2 d148 d146
    go_wp2_with fail
    go_ret
    exact ⟨rfl, m3, v3, vs3, HK3.out, HF3.out⟩
end Go.Proofs.YtmmflekajbeamabGreatDoor

namespace Go.Proofs.YtmmflekajbeamabGreatDoor
open Go.RowKit Go.Maps Go.WideMaps

theorem sizeCt : (Tryz.prog.info? 45).map (·.size) = some 5 := by kernel_rfl
theorem heap_first (w : World) (o1 o2 : Obj) : ((w.alloc o1).alloc o2).heap[w.heap.size]? = some o1 := by rw [Below.heap_alloc _ _ _ (by rw [size_alloc1]; omega), _root_.Go.heap_alloc_new]
set_option maxRecDepth 100000 in
set_option maxHeartbeats 2000000 in
theorem eState_any (E D : Nat) (g : EgN) (m v : Nat → Value) (w : World) (h : EgAt E D g m v w) :
    Calls Tryz.prog 43 #[.pointer (some ⟨E, 0, none⟩)] w fun e' w' => e' = .returned (.agg (S g.z)) ∧ Below w.heap.size w w' := by
  have zz := zero34
  have hzl := zlen g.z h.zl
  have hz := h.zl
  obtain ⟨W0, hW0⟩ : ∃ W0, W0 = w.alloc (.cells (S zeroZ) 25) := ⟨_, rfl⟩
  have hb0 : Below w.heap.size w W0 := by rw [hW0]; exact (Below.refl _ _).alloc (Nat.le_refl _) _
  have k0 : EgAt E D g m v W0 := h.kept (fun x q => hb0.block x (h.has q).2)
  have hr := k0.st
  have R1 : isRowB W0 w.heap.size 138 = true := by rw [hW0, isRowB_alloc_at _ _ _ _ _ rfl]; rfl
  obtain ⟨t, hg⟩ := heap_setRow_S R1 (S g.z)
  have HG := hide hg
  have HB : Hid (Below w.heap.size w (W0.setRow w.heap.size (S g.z))) := below_setRow hb0 (Nat.le_refl _) _
  have HW0 := hide hW0
  clear h k0 hb0 hW0 hg
  go_enter Tryz.func43, Tryz.ntmps43
  go_wp2_with (first
    | refine wpList_load_mid rfl 25 _ rfl E 3 rfl (g.z.map (Value.int .i64)) _ (by rw [← HW0.out]; exact hr) Tryz.underlying25 rfl hzl ?_
    | refine wpList_store_S rfl _ _ rfl _ rfl g.z rfl hz (by rw [← HW0.out]; exact R1) (W0.setRow w.heap.size (S g.z)) (by rw [← HW0.out]) ?_)
  exact bodyPost_ret (v := .agg (S g.z)) (results_cell_row Tryz.results43 _ _ w.heap.size _ _ _ _ rfl HG.out Tryz.underlying25 rfl (by rw [size34, S_size, hz])) rfl ⟨rfl, HB.out⟩
set_option maxRecDepth 100000 in
set_option maxHeartbeats 2000000 in
theorem eCounts_any (E D : Nat) (g : EgN) (m v : Nat → Value) (w : World) (h : EgAt E D g m v w) :
    Calls Tryz.prog 34 #[.pointer (some ⟨E, 0, none⟩)] w fun e' w' => e' = .returned (.agg #[.int .i64 (g.c 0 : Int), .int .i64 (g.c 1 : Int), .int .i64 (g.c 2 : Int), .int .i64 (g.c 3 : Int), .int .i64 ((g.b 1).length : Int)]) ∧ Below w.heap.size w w' := by
  have c0 : w.cell? ⟨E, 141, none⟩ = some (.int .i64 (g.c 0 : Int)) := h.sc 141 (.inr (by decide))
  have c1 : w.cell? ⟨E, 142, none⟩ = some (.int .i64 (g.c 1 : Int)) := h.sc 142 (.inr (by decide))
  have c2 : w.cell? ⟨E, 143, none⟩ = some (.int .i64 (g.c 2 : Int)) := h.sc 143 (.inr (by decide))
  have c3 : w.cell? ⟨E, 144, none⟩ = some (.int .i64 (g.c 3 : Int)) := h.sc 144 (.inr (by decide))
  have c4 : w.cell? ⟨E, 145, none⟩ = some (.int .i64 0) := h.sc 145 (.inr (by decide))
  have b1 := h.bk 1 (by decide)
  have c5 : w.cell? ⟨E, 152, none⟩ = some (v 1) := b1.c1
  obtain ⟨va, vc, hv⟩ := owns_len b1.ls
  rw [hv] at c5
  have hE := h.lt
  have hne : ¬ E = w.heap.size := by omega
  have HB : Hid (∀ o1 o2, Below w.heap.size w ((w.alloc o1).alloc o2)) := fun o1 o2 => ((Below.refl _ _).alloc (Nat.le_refl _) _).alloc (by rw [size_alloc1]; omega) _
  clear h b1 hv
  generalize (g.b 1).length = L1 at *
  go_enter Tryz.func34, Tryz.ntmps34
  go_wp2_with fail
  exact bodyPost_ret (v := .agg #[.int .i64 (g.c 0 : Int), .int .i64 (g.c 1 : Int), .int .i64 (g.c 2 : Int), .int .i64 (g.c 3 : Int), .int .i64 (L1 : Int)]) (results_cell_row Tryz.results34 _ _ w.heap.size 45 _ (0, 0) _ rfl (heap_first w _ _) Tryz.underlying45 rfl sizeCt) rfl ⟨rfl, HB.out _ _⟩
set_option maxRecDepth 100000 in
theorem ewithin_any (X E : Nat) (w : World) (hx : XAt X E w) : Calls Tryz.prog 33 #[.pointer (some ⟨X, 0, none⟩)] w fun e' w' => e' = .returned (.pointer (some ⟨E, 0, none⟩)) ∧ w' = w := by
  go_enter Tryz.func33, Tryz.ntmps33
  go_wp2_with fail
  go_ret
  exact ⟨rfl, rfl⟩
set_option maxRecDepth 100000 in
theorem cPersist_of (X E : Nat) (w : World) (hx : XAt X E w) (Q : Ending → World → Prop) (hQ : ∀ e w', Q e w' → ∃ u, e = .returned u) (h : Calls Tryz.prog 35 #[.pointer (some ⟨E, 0, none⟩)] w Q) : Calls Tryz.prog 16 #[.pointer (some ⟨X, 0, none⟩)] w Q := by
  have HW := hide (ewithin_any X E w hx)
  have HC := hide h
  have HQ := hide hQ
  clear h hx hQ
  go_enter Tryz.func16, Tryz.ntmps16
  go_wp2_with fail
  refine (unhide HW).mono ?_
  rintro e w' ⟨rfl, hw'⟩
  obtain rfl := hw'.symm
  go_wp2_with fail
  refine (unhide HC).mono ?_
  intro e w1 hq
  obtain ⟨u, rfl⟩ := HQ.out e w1 hq
  have HQ1 := hide hq
  clear hq HC
  go_wp2_with fail
  exact HQ1.out
set_option maxRecDepth 100000 in
theorem cKnown_of (X E : Nat) (w : World) (hx : XAt X E w) (Q : Ending → World → Prop) (hQ : ∀ e w', Q e w' → ∃ u, e = .returned u) (h : Calls Tryz.prog 40 #[.pointer (some ⟨E, 0, none⟩)] w Q) : Calls Tryz.prog 19 #[.pointer (some ⟨X, 0, none⟩)] w Q := by
  have HW := hide (ewithin_any X E w hx)
  have HC := hide h
  have HQ := hide hQ
  clear h hx hQ
  go_enter Tryz.func19, Tryz.ntmps19
  go_wp2_with fail
  refine (unhide HW).mono ?_
  rintro e w' ⟨rfl, hw'⟩
  obtain rfl := hw'.symm
  go_wp2_with fail
  refine (unhide HC).mono ?_
  intro e w1 hq
  obtain ⟨u, rfl⟩ := HQ.out e w1 hq
  have HQ1 := hide hq
  clear hq HC
  go_wp2_with fail
  exact HQ1.out
set_option maxRecDepth 100000 in
theorem cRun_of (X E : Nat) (n : Int) (w : World) (hx : XAt X E w) (Q : Ending → World → Prop) (hQ : ∀ e w', Q e w' → ∃ u v, e = .returned (.tuple #[u, v])) (h : Calls Tryz.prog 39 #[.pointer (some ⟨E, 0, none⟩), .int .i64 n] w Q) : Calls Tryz.prog 18 #[.pointer (some ⟨X, 0, none⟩), .int .i64 n] w Q := by
  have HW := hide (ewithin_any X E w hx)
  have HC := hide h
  have HQ := hide hQ
  clear h hx hQ
  go_enter Tryz.func18, Tryz.ntmps18
  go_wp2_with fail
  refine (unhide HW).mono ?_
  rintro e w' ⟨rfl, hw'⟩
  obtain rfl := hw'.symm
  go_wp2_with fail
  refine (unhide HC).mono ?_
  intro e w1 hq
  obtain ⟨u, v, rfl⟩ := HQ.out e w1 hq
  have HQ1 := hide hq
  clear hq HC
  go_wp2_with fail
  exact HQ1.out
set_option maxRecDepth 100000 in
set_option maxHeartbeats 2000000 in
theorem cState_any (X E D : Nat) (g : EgN) (m v : Nat → Value) (w : World) (hx : XAt X E w) (h : EgAt E D g m v w) :
    Calls Tryz.prog 21 #[.pointer (some ⟨X, 0, none⟩)] w fun e' w' => e' = .returned (.agg (S g.z)) ∧ Below w.heap.size w w' := by
  have zz := zero34
  have hz := h.zl
  obtain ⟨W0, hW0⟩ : ∃ W0, W0 = w.alloc (.cells (S zeroZ) 25) := ⟨_, rfl⟩
  have hb0 : Below w.heap.size w W0 := by rw [hW0]; exact (Below.refl _ _).alloc (Nat.le_refl _) _
  have k0 : EgAt E D g m v W0 := h.kept (fun x q => hb0.block x (h.has q).2)
  have hx0 : XAt X E W0 := (World.cell?_of_block (hb0.block X (block_lt_of_cell hx))).trans hx
  have HW := hide (ewithin_any X E W0 hx0)
  have HS := hide (eState_any E D g m v W0 k0)
  have HR : Hid (isRowB W0 w.heap.size 138 = true) := by unfold Hid; rw [hW0, isRowB_alloc_at _ _ _ _ _ rfl]; rfl
  have hlt : w.heap.size < W0.heap.size := by rw [hW0, size_alloc1]; omega
  have HB0 := hide hb0; have HW0 := hide hW0
  clear h k0 hb0 hW0 hx hx0
  go_enter Tryz.func21, Tryz.ntmps21
  go_wp2_with fail
  rw [← HW0.out]
  refine (unhide HW).mono ?_
  rintro e w' ⟨rfl, hw'⟩
  obtain rfl := hw'.symm
  go_wp2_with fail
  refine (unhide HS).mono ?_
  rintro e w1 ⟨rfl, hb1⟩
  have R1 : isRowB w1 w.heap.size 138 = true := by rw [isRowB_below hb1 hlt]; exact HR.out
  obtain ⟨t, hg⟩ := heap_setRow_S R1 (S g.z)
  have HG := hide hg
  have HB : Hid (Below w.heap.size w (w1.setRow w.heap.size (S g.z))) := below_setRow (HB0.out.trans (hb1.mono HB0.out.size)) (Nat.le_refl _) _
  clear hb1 hg HS HW
  go_wp2_with (refine wpList_store_S rfl _ _ rfl _ rfl g.z rfl hz R1 _ rfl ?_)
  exact bodyPost_ret (v := .agg (S g.z)) (results_cell_row Tryz.results21 _ _ w.heap.size _ _ _ _ rfl HG.out Tryz.underlying25 rfl (by rw [size34, S_size, hz])) rfl ⟨rfl, HB.out⟩
set_option maxRecDepth 100000 in
set_option maxHeartbeats 2000000 in
theorem cCounts_any (X E D : Nat) (g : EgN) (m v : Nat → Value) (w : World) (hx : XAt X E w) (h : EgAt E D g m v w) :
    Calls Tryz.prog 15 #[.pointer (some ⟨X, 0, none⟩)] w fun e' w' => e' = .returned (.agg #[.int .i64 (g.c 0 : Int), .int .i64 (g.c 1 : Int), .int .i64 (g.c 2 : Int), .int .i64 (g.c 3 : Int), .int .i64 ((g.b 1).length : Int)]) ∧ Below w.heap.size w w' := by
  obtain ⟨W0, hW0⟩ : ∃ W0, W0 = w.alloc (.cells #[.int .i64 0, .int .i64 0, .int .i64 0, .int .i64 0, .int .i64 0] 45) := ⟨_, rfl⟩
  have hb0 : Below w.heap.size w W0 := by rw [hW0]; exact (Below.refl _ _).alloc (Nat.le_refl _) _
  have k0 : EgAt E D g m v W0 := h.kept (fun x q => hb0.block x (h.has q).2)
  have hx0 : XAt X E W0 := (World.cell?_of_block (hb0.block X (block_lt_of_cell hx))).trans hx
  have r0 : W0.heap[w.heap.size]? = some (.cells #[.int .i64 0, .int .i64 0, .int .i64 0, .int .i64 0, .int .i64 0] 45 (0, 0)) := by rw [hW0, _root_.Go.heap_alloc_new]
  have HW := hide (ewithin_any X E W0 hx0)
  have HS := hide (eCounts_any E D g m v W0 k0)
  have hlt : w.heap.size < W0.heap.size := by rw [hW0, size_alloc1]; omega
  have HB0 := hide hb0; have HW0 := hide hW0; have HR0 := hide r0
  clear h k0 hb0 hW0 hx hx0 r0
  generalize (g.b 1).length = L1 at *
  generalize g.c 0 = C0 at *
  generalize g.c 1 = C1 at *
  generalize g.c 2 = C2 at *
  generalize g.c 3 = C3 at *
  go_enter Tryz.func15, Tryz.ntmps15
  go_wp2_with fail
  rw [← HW0.out]
  refine (unhide HW).mono ?_
  rintro e w' ⟨rfl, hw'⟩
  obtain rfl := hw'.symm
  go_wp2_with fail
  refine (unhide HS).mono ?_
  rintro e w1 ⟨rfl, hb1⟩
  have r1 : w1.heap[w.heap.size]? = some (.cells #[.int .i64 0, .int .i64 0, .int .i64 0, .int .i64 0, .int .i64 0] 45 (0, 0)) := (hb1.block _ hlt).trans HR0.out
  have hB1 : Below w.heap.size w w1 := HB0.out.trans (hb1.mono HB0.out.size)
  have HEnd : Hid (∀ Wf, Wf = ((((w1.setCell ⟨w.heap.size, 0, none⟩ (.int .i64 (C0 : Int))).setCell ⟨w.heap.size, 1, none⟩ (.int .i64 (C1 : Int))).setCell ⟨w.heap.size, 2, none⟩ (.int .i64 (C2 : Int))).setCell ⟨w.heap.size, 3, none⟩ (.int .i64 (C3 : Int))).setCell ⟨w.heap.size, 4, none⟩ (.int .i64 (L1 : Int)) → Wf.heap[w.heap.size]? = some (.cells #[.int .i64 (C0 : Int), .int .i64 (C1 : Int), .int .i64 (C2 : Int), .int .i64 (C3 : Int), .int .i64 (L1 : Int)] 45 (0, 0)) ∧ Below w.heap.size w Wf) := fun Wf e => by
    refine ⟨by rw [e]; simp [World.setCell, Array.getElem?_modify, r1], ?_⟩
    rw [e]
    exact ((((hB1.setCell (p := ⟨w.heap.size, 0, none⟩) (Nat.le_refl _) _).setCell (p := ⟨w.heap.size, 1, none⟩) (Nat.le_refl _) _).setCell (p := ⟨w.heap.size, 2, none⟩) (Nat.le_refl _) _).setCell (p := ⟨w.heap.size, 3, none⟩) (Nat.le_refl _) _).setCell (p := ⟨w.heap.size, 4, none⟩) (Nat.le_refl _) _
  have q0 : w1.cell? ⟨w.heap.size, 0, none⟩ = some (.int .i64 0) := by simp [World.cell?, r1]
  have q1 : w1.cell? ⟨w.heap.size, 1, none⟩ = some (.int .i64 0) := by simp [World.cell?, r1]
  have q2 : w1.cell? ⟨w.heap.size, 2, none⟩ = some (.int .i64 0) := by simp [World.cell?, r1]
  have q3 : w1.cell? ⟨w.heap.size, 3, none⟩ = some (.int .i64 0) := by simp [World.cell?, r1]
  have q4 : w1.cell? ⟨w.heap.size, 4, none⟩ = some (.int .i64 0) := by simp [World.cell?, r1]
  have z0 : w1.frozen? ⟨w.heap.size, 0, none⟩ = false := by simp [World.frozen?, r1]
  have z1 : w1.frozen? ⟨w.heap.size, 1, none⟩ = false := by simp [World.frozen?, r1]
  have z2 : w1.frozen? ⟨w.heap.size, 2, none⟩ = false := by simp [World.frozen?, r1]
  have z3 : w1.frozen? ⟨w.heap.size, 3, none⟩ = false := by simp [World.frozen?, r1]
  have z4 : w1.frozen? ⟨w.heap.size, 4, none⟩ = false := by simp [World.frozen?, r1]
  clear hb1 r1 hB1 HS HW
  go_wp2_with fail
  exact bodyPost_ret (v := .agg #[.int .i64 (C0 : Int), .int .i64 (C1 : Int), .int .i64 (C2 : Int), .int .i64 (C3 : Int), .int .i64 (L1 : Int)]) (results_cell_row Tryz.results15 _ _ w.heap.size 45 _ _ _ rfl (HEnd.out _ rfl).1 Tryz.underlying45 rfl sizeCt) rfl ⟨rfl, (HEnd.out _ rfl).2⟩
end Go.Proofs.YtmmflekajbeamabGreatDoor

namespace Go.Proofs.YtmmflekajbeamabGreatDoor
open Go.RowKit Go.Maps Go.WideMaps

abbrev BwN := List UInt8 × List UInt8
end Go.Proofs.YtmmflekajbeamabGreatDoor

namespace Go.Proofs.YtmmflekajbeamabGreatDoor
open Go.RowKit Go.Maps Go.WideMaps

end Go.Proofs.YtmmflekajbeamabGreatDoor

namespace Go.Proofs.YtmmflekajbeamabGreatDoor
open Go.RowKit Go.Maps Go.WideMaps

end Go.Proofs.YtmmflekajbeamabGreatDoor

namespace Go.Proofs.YtmmflekajbeamabGreatDoor
open Go.RowKit Go.Maps Go.WideMaps

end Go.Proofs.YtmmflekajbeamabGreatDoor

namespace Go.Proofs.YtmmflekajbeamabGreatDoor

theorem wds_rdW {t : List UInt8} (h : blkB (bya t) = true) : wdsT (rdW t) = t := by
  have hok := (blkB_iff _).1 h
  have hz : (bya t).size = t.length := bya_size t
  have := wds_lst (s := bya t) hok.2.2.1
  rw [lst_bya, hz] at this
  exact this
/-- A book's words: blocks, each once. -/
structure BkOK (l : List KwN) : Prop where
  ok : ∀ k ∈ l, wOK k.1
  blk : ∀ k ∈ l, blkB (bya (wdsT k.1)) = true
  one : (bkW l).Nodup
theorem BkOK.nil : BkOK [] := ⟨fun _ h => (by cases h), fun _ h => (by cases h), List.nodup_nil⟩
theorem bkW_lay {l : List KwN} {ws : List Nat} {p : List UInt8} : bkW (layB l ws p) = if ws ∈ bkW l then bkW l else bkW l ++ [ws] := by
  unfold layB
  cases h : (bkW l).findIdx? (· == ws) with
  | some n =>
    rw [List.findIdx?_eq_some_iff_getElem] at h
    obtain ⟨hn, he, _⟩ := h
    rw [beq_iff_eq] at he
    rw [if_pos (by rw [← he]; exact List.getElem_mem hn)]
    show (l.set n (ws, p)).map (·.1) = bkW l
    rw [List.map_set]
    show (bkW l).set n ws = bkW l
    rw [← he, List.set_getElem_self]
  | none =>
    rw [List.findIdx?_eq_none_iff] at h
    rw [if_neg (fun q => by have := h ws q; simp at this)]
    simp [bkW]
theorem BkOK.lay {l : List KwN} (h : BkOK l) {ws : List Nat} (hw : wOK ws) (hb : blkB (bya (wdsT ws)) = true) (p : List UInt8) : BkOK (layB l ws p) := by
  refine ⟨fun k hk => ?_, fun k hk => ?_, ?_⟩
  · rcases layB_mem hk with q | rfl
    · exact h.ok k q
    · exact hw
  · rcases layB_mem hk with q | rfl
    · exact h.blk k q
    · exact hb
  · rw [bkW_lay]
    split
    · exact h.one
    · rename_i hn
      rw [List.nodup_append]
      refine ⟨h.one, List.nodup_cons.2 ⟨by simp, List.nodup_nil⟩, fun a ha b hb e => ?_⟩
      rw [List.mem_singleton] at hb
      rw [← hb, ← e] at hn
      exact hn ha
theorem BkOK.add {l : List KwN} (h : BkOK l) (x : BwN) : BkOK (bkAdd l x) := by
  unfold bkAdd
  split
  · rename_i hb
    exact h.lay (rdW_ok hb) (by rw [wds_rdW hb]; exact hb) _
  · exact h
theorem BkOK.fold : ∀ (m : List BwN) (l : List KwN), BkOK l → BkOK (m.foldl bkAdd l)
  | [], _, h => h
  | x :: m, l, h => BkOK.fold m (bkAdd l x) (h.add x)
theorem BkOK.book (m : List BwN) : BkOK (bookL m) := BkOK.fold m [] BkOK.nil
theorem fold_self : ∀ (m l : List KwN), BkOK (l ++ m) → (knT m).foldl bkAdd l = l ++ m
  | [], l, _ => by simp [knT]
  | k :: m, l, h => by
    have hk := h.ok k (by simp)
    have hb := h.blk k (by simp)
    have hn : k.1 ∉ bkW l := fun q => by
      have := h.one
      unfold bkW at this q
      rw [List.map_append, List.nodup_append] at this
      exact this.2.2 k.1 q k.1 (by simp) rfl
    have e : bkAdd l (wdsT k.1, k.2) = l ++ [k] := by
      unfold bkAdd
      rw [if_pos hb]
      show layB l (rdW (wdsT k.1)) k.2 = _
      rw [rdW_wds hk]
      unfold layB
      have : (bkW l).findIdx? (· == k.1) = none := by
        rw [List.findIdx?_eq_none_iff]
        intro y hy
        simp only [beq_eq_false_iff_ne]
        exact fun e => hn (e ▸ hy)
      rw [this]
    show (knT m).foldl bkAdd (bkAdd l (wdsT k.1, k.2)) = _
    rw [e, fold_self m (l ++ [k]) (by rw [List.append_assoc]; exact h), List.append_assoc]
    rfl
theorem bookL_self {l : List KwN} (h : BkOK l) : bookL (knT l) = l := by
  have := fold_self l [] (by simpa using h)
  simpa [bookL] using this
/-- What an engine's books keep to. -/
structure GPu (g : EgN) : Prop where
  bk : ∀ i, i < 3 → BkOK (g.b i)
  sub : ∀ ws, ws ∈ bkW (g.b 1) → ws ∈ bkW (g.b 2)
theorem GPu.of {g g' : EgN} (h : GPu g) (e : g'.b = g.b) : GPu g' := ⟨by rw [e]; exact h.bk, by rw [e]; exact h.sub⟩
theorem GPu.learn {g : EgN} (h : GPu g) : GPu (learnE g) := by
  refine ⟨fun i hi => ?_, fun ws hws => ?_⟩
  · show BkOK (upd (upd g.b 0 (togB g)) 1 [] i)
    by_cases e : i = 1
    · rw [e, upd_at]; exact BkOK.nil
    · rw [upd_ne _ _ _ _ e]
      by_cases e0 : i = 0
      · rw [e0, upd_at]; exact BkOK.book _
      · rw [upd_ne _ _ _ _ e0]; exact h.bk i hi
  · have : bkW (upd (upd g.b 0 (togB g)) 1 [] 1) = [] := by rw [upd_at]; rfl
    have hws' : ws ∈ bkW (upd (upd g.b 0 (togB g)) 1 [] 1) := hws
    rw [this] at hws'
    cases hws'
theorem GPu.new (k : Int) (z : List Int) : GPu (newG k z) := ⟨fun _ _ => BkOK.nil, fun _ h => by cases h⟩
theorem GPu.plan {g : EgN} (h : GPu g) {ws : List Nat} (hw : wOK ws) (hb : blkB (bya (wdsT ws)) = true) : GPu (planE g ws).1 := by
  unfold planE
  cases hf : fB (g.b 2) ws with
  | some p => exact h.of rfl
  | none =>
    simp only
    obtain ⟨e0, e2, e1⟩ := prepE_b g ws
    refine ⟨fun i hi => ?_, fun x hx => ?_⟩
    · show BkOK (upd (prepE g ws).1.b 2 (layB ((prepE g ws).1.b 2) ws (prepE g ws).2) i)
      by_cases q : i = 2
      · rw [q, upd_at, e2]; exact (h.bk 2 (by decide)).lay hw hb _
      · rw [upd_ne _ _ _ _ q]
        by_cases q0 : i = 0
        · rw [q0, e0]; exact h.bk 0 (by decide)
        · have q1 : i = 1 := by omega
          rw [q1]
          rcases e1 with e1 | e1
          · rw [e1]; exact h.bk 1 (by decide)
          · rw [e1]; exact (h.bk 1 (by decide)).lay hw hb _
    · show x ∈ bkW (upd (prepE g ws).1.b 2 (layB ((prepE g ws).1.b 2) ws (prepE g ws).2) 2)
      have hx' : x ∈ bkW (upd (prepE g ws).1.b 2 (layB ((prepE g ws).1.b 2) ws (prepE g ws).2) 1) := hx
      rw [upd_at, e2, bkW_lay]
      rw [upd_ne _ _ _ _ (by decide)] at hx'
      have key : x ∈ bkW (g.b 1) ∨ x = ws := by
        rcases e1 with e1 | e1
        · rw [e1] at hx'; exact .inl hx'
        · rw [e1, bkW_lay] at hx'
          split at hx'
          · exact .inl hx'
          · rcases List.mem_append.1 hx' with q | q
            · exact .inl q
            · exact .inr (List.mem_singleton.1 q)
      split
      · rename_i hm
        rcases key with q | q
        · exact h.sub x q
        · rw [q]; exact hm
      · rcases key with q | q
        · exact List.mem_append_left _ (h.sub x q)
        · rw [q]; exact List.mem_append_right _ (List.mem_singleton.2 rfl)
end Go.Proofs.YtmmflekajbeamabGreatDoor
