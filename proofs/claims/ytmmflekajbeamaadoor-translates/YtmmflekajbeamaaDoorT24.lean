/-
  Translates, the document's answer: a block's own plan (cribref.Translate).
-/
import Derived.Test.YtmmflekajbeamaaDoorT22
import Derived.Test.YtmmflekajbeamaaDoorT23
import Derived.BigRegion
import Derived.Deep.Cut
import Derived.Deep.CutRange
namespace Go.Proofs.YtmmflekajbeamaaDoor
open Go.RowKit

theorem putW_nat (x : Nat) : ∃ op a b c kk : Nat, fop (x : Int) = op ∧ fa (x : Int) = a ∧ fb (x : Int) = b ∧ fc (x : Int) = c ∧ fk (x : Int) = kk ∧ putW (x : Int) = if op = 1 then ⟨1, a, 0, 0, kk⟩ else if op = 6 then ⟨6, a, b, 0, kk⟩ else ⟨op, a, b, c, 0⟩ := by
  have h0 := fop_bd (x : Int); have h1 := fa_bd (x : Int); have h2 := fb_bd (x : Int); have h3 := fc_bd (x : Int); have h4 := fk_bd (x : Int)
  refine ⟨(fop x).toNat, (fa x).toNat, (fb x).toNat, (fc x).toNat, (fk x).toNat, by omega, by omega, by omega, by omega, by omega, ?_⟩
  unfold putW
  by_cases e1 : fop (x : Int) = 1
  · rw [if_pos e1, if_pos (show (fop (x : Int)).toNat = 1 by omega)]
  · rw [if_neg e1, if_neg (show ¬ (fop (x : Int)).toNat = 1 by omega)]
    by_cases e6 : fop (x : Int) = 6
    · rw [if_pos e6, if_pos (show (fop (x : Int)).toNat = 6 by omega)]
    · rw [if_neg e6, if_neg (show ¬ (fop (x : Int)).toNat = 6 by omega)]
def ixZ (ix : List Nat) : List Int := ix.map fun n : Nat => (n : Int)
theorem ixZ_len (ix : List Nat) : (ixZ ix).length = ix.length := by simp [ixZ]
theorem ixZ_get (ix : List Nat) (i : Nat) : gz (ixZ ix) i = (ix.getD i 0 : Nat) := by
  unfold gz ixZ
  rw [List.getD_eq_getElem?_getD, List.getD_eq_getElem?_getD, List.getElem?_map]
  cases ix[i]? <;> rfl
theorem ixZ_set (ix : List Nat) (i v : Nat) : (ixZ ix).set i (v : Int) = ixZ (ix.set i v) := by
  unfold ixZ; rw [List.map_set]
theorem make8 (w : World) : (Instr.makeSlice 36 (.int .i64 8) (.int .i64 8)).run Tryd.prog w = .ok (.slice (some ⟨w.heap.size, 0, none⟩) 8 8) (w.alloc (.cells (S (ixZ (List.replicate 8 0))) 3)) := by kernel_rfl
theorem idle_drop {L : List PutN} {m : Nat} {p : PutN} (h : L[m]? = some p) : idle (L.drop m) = if nd (L.drop (m + 1)) p.d = true then p :: idle (L.drop (m + 1)) else idle (L.drop (m + 1)) := by
  rw [drop_cons' h, idle]
theorem num1 (v : Nat) (h : v < 256) : numB 1 v = [UInt8.ofNat v] := by
  simp only [numB, Nat.pow_zero, Nat.div_one]
  rw [Nat.mod_eq_of_lt h]
def numI (n : Int) (v : Nat) : ByteArray := bya (numB n.toNat v)
theorem numberI (v : Nat) (n : Int) (w : World) (h : n = 1 ∨ n = 4) (hv : v < 9223372036854775808) :
    Calls Tryd.prog 94 #[.int .i64 (v : Int), .int .i64 n] w fun e' w' => e' = .returned (.string (numI n v)) ∧ Below w.heap.size w w' := by
  rcases h with rfl | rfl
  · exact number_ref v 1 w (by decide) hv
  · exact number_ref v 4 w (by decide) hv
set_option maxRecDepth 100000 in
set_option maxHeartbeats 20000000 in
theorem refTranslate_any (s : ByteArray) (w : World) (hs : s.size ≤ maxLen) :
    Calls Tryd.prog 56 #[.string s] w (TrPost s w) := by
  by_cases h : blkOK s
  · have hs4 := h.1; have hs32 := h.2.1; have hm4 := h.2.2.1
    have HBk := hide h
    have HIb := hide (isBlock_yes s w h)
    have hnp := nPl_le s
    have hnp2 : s.size / 4 - 1 ≤ nPl s := by unfold nPl; split <;> omega
    have hbl : (blkPuts s).length = nPl s := nPl_len s
    have hbp : ∀ k, k < nPl s → (blkPuts s)[k]? = some (putW (wdAt s k : Nat)) := fun k hk => by
      unfold blkPuts
      rw [List.getElem?_map, List.getElem?_range hk]; rfl
    have HBp := hide hbp
    have HOkB := hide (blkPuts_okB h)
    obtain ⟨inf, hinf, hz, hsz1, hby⟩ := infoPut
    have HInf := hide hinf; have HZ := hide hz; have HSz := hide hsz1; have HBy := hide hby
    have HR0 : Hid (RowI (w.alloc (.cells (S (ixZ (List.replicate 8 0))) 3)) w.heap.size 3 (ixZ (List.replicate 8 0))) := _root_.Go.heap_alloc_new w _
    have HB0 := hide ((Below.refl w.heap.size w).alloc (Nat.le_refl _) (.cells (S (ixZ (List.replicate 8 0))) 3))
    clear hbp h hinf hz hsz1 hby
    have mk8 := make8
    go_enter Tryd.func56, Tryd.ntmps56
    go_wp2_with fail
    refine (unhide HIb).mono ?_
    rintro e w' ⟨rfl, hw⟩
    obtain rfl := hw.symm
    clear HIb
    go_wp2_with fail
    clear mk8
    go_loopw [5, 7] (fun v i wr => ∃ (k j : Nat) (st : List PutN × List PutN) (ix : List Nat), k ≤ s.size / 4 ∧ j = 4 * k ∧ i = .int .i64 j ∧ Hid (st = ((blkPuts s).take k).foldl knS kn0 ∧ LastR st.1 st.2 ix) ∧ wr.ownsRow (w.heap.size + 1) 59 5 v st.2.length (putCs st.2) ∧ RowI wr w.heap.size 3 (ixZ ix) ∧ Below w.heap.size w wr) (fun _ i _ => s.size - (intOf i).toNat)
    case atStart => exact ⟨0, 0, kn0, List.replicate 8 0, Nat.zero_le _, rfl, rfl, ⟨rfl, LastR.zero⟩, World.ownsRow_nil _ _ _ _, HR0.out, HB0.out⟩
    case round =>
      obtain ⟨k, j, st, ix, hk, hj, rfl, HSt, hown, hrow, hbl'⟩ := hrel
      obtain ⟨va, vc, hv⟩ := owns_len hown
      subst hv
      have HO := hide hown; have HBl := hide hbl'; have HRw := hide hrow; have HJ := hide hj
      have hwz : w.heap.size < wr.heap.size := hrow.lt
      by_cases hlt : k < s.size / 4
      · have hlt' : (j : Int) < (s.size : Int) := by omega
        have hj4 : j + 4 ≤ s.size := by omega
        have hwl := wdAt_lt s k
        have hv : ∀ w', Calls Tryd.prog 86 #[.string s, .int .i64 (j : Int), .int .i64 4] w' fun e' w'' => e' = .returned (.int .i64 (wdAt s k : Nat)) ∧ w'' = w' := fun w' => by
          have := value_any s j 4 w' (by decide) (by omega) (by omega)
          unfold wdAt
          rw [← hj]
          exact this
        have HV := hide hv
        have hpl := fun w' => plain_any (wdAt s k : Nat) w' (by omega) (by omega)
        by_cases hkp : k < nPl s
        · have hpk : plW (wdAt s k : Nat) = true := blk_plain HBk.out hkp
          have hpk' : plB (fop (wdAt s k : Nat)) (fa (wdAt s k : Nat)) (fb (wdAt s k : Nat)) (fc (wdAt s k : Nat)) = true := hpk
          rw [hpk'] at hpl
          have HPl := hide hpl
          have hkn := KnOK.fold HOkB.out k (by omega)
          rw [← HSt.out.1] at hkn
          have hok := HOkB.out _ (List.mem_of_getElem? (HBp.out k hkp))
          have HNx : Hid (knS st (putW (wdAt s k : Nat)) = ((blkPuts s).take (k + 1)).foldl knS kn0) := by unfold Hid; rw [fold_snoc (HBp.out k hkp), ← HSt.out.1]
          have hKn' : knS st (putW (wdAt s k : Nat)) = (st.1.set (putW (wdAt s k : Nat)).d (knP st.1 (putW (wdAt s k : Nat))), st.2 ++ [knP st.1 (putW (wdAt s k : Nat))]) := rfl
          rw [hKn'] at HNx
          have hok2 := hok.kn hkn.bd
          have HLs := HSt.out.2.step hkn.l8 hok.2.2.1
          rw [hKn'] at HLs
          have hKp : knP st.1 (putW (wdAt s k : Nat)) = if arN (putW (wdAt s k : Nat)).kind = true ∧ (st.1.getD (putW (wdAt s k : Nat)).a zPut).kind = 1 ∧ (st.1.getD (putW (wdAt s k : Nat)).b zPut).kind = 1 then ⟨1, (putW (wdAt s k : Nat)).d, 0, 0, (wk (putW (wdAt s k : Nat)).kind (st.1.getD (putW (wdAt s k : Nat)).a zPut).k (st.1.getD (putW (wdAt s k : Nat)).b zPut).k).toNat⟩ else putW (wdAt s k : Nat) := rfl
          have HKp := hide hKp
          generalize knP st.1 (putW (wdAt s k : Nat)) = q at *
          have o1 := hide (fun w' => op_any (wdAt s k : Nat) w' (by omega) (by omega))
          have o2 := hide (fun w' => a_any (wdAt s k : Nat) w' (by omega) (by omega))
          have o3 := hide (fun w' => b_any (wdAt s k : Nat) w' (by omega) (by omega))
          have o4 := hide (fun w' => c_any (wdAt s k : Nat) w' (by omega) (by omega))
          have o5 := hide (fun w' => k_any (wdAt s k : Nat) w' (by omega) (by omega))
          generalize wdAt s k = x at *
          obtain ⟨op, a, b, c, kk, e0, e1, e2, e3, e4, hpw⟩ := putW_nat x
          rw [e0] at o1
          rw [e1] at o2
          rw [e2] at o3
          rw [e3] at o4
          rw [e4] at o5
          generalize putW (x : Int) = p at *
          have hob : op < 256 ∧ a < 16 ∧ b < 16 ∧ c < 16 ∧ kk < 4096 := by
            have h0 := fop_bd (x : Int); have h1 := fa_bd (x : Int); have h2 := fb_bd (x : Int); have h3 := fc_bd (x : Int); have h4 := fk_bd (x : Int)
            omega
          clear hKp hKn'
          clear e0 e1 e2 e3 e4 hpk hpk' hpl hv hown hrow hbl' hj
          go_upto_region 10 with fail
          refine (unhide HV _).mono ?_
          rintro e w' ⟨rfl, hw⟩
          obtain rfl := hw.symm
          go_upto_region 11 with fail
          refine (unhide HPl _).mono ?_
          rintro e w' ⟨rfl, hw⟩
          obtain rfl := hw.symm
          go_upto_region 13 with fail
          refine (unhide o1 _).mono ?_
          rintro e w' ⟨rfl, hw⟩
          obtain rfl := hw.symm
          go_upto_region 14 with fail
          refine (unhide o2 _).mono ?_
          rintro e w' ⟨rfl, hw⟩
          obtain rfl := hw.symm
          go_upto_region 15 with fail
          refine (unhide o3 _).mono ?_
          rintro e w' ⟨rfl, hw⟩
          obtain rfl := hw.symm
          go_upto_region 16 with fail
          refine (unhide o4 _).mono ?_
          rintro e w' ⟨rfl, hw⟩
          obtain rfl := hw.symm
          go_upto_region 17 with fail
          refine (unhide o5 _).mono ?_
          rintro e w' ⟨rfl, hw⟩
          obtain rfl := hw.symm
          go_upto_region 17 with fail
          go_cut [15] from 25 to 134 (fun x wx => x = .pointer (some ⟨wr.heap.size, 0, none⟩) ∧ wx = wr.alloc (.cells #[.int .i64 (op : Int), .int .i64 (a : Int), .int .i64 (b : Int), .int .i64 (c : Int), .int .i64 0] 59))
          case first =>
            go_wp2_with fail
            go_meet
            exact ⟨rfl, rfl⟩
          case rest =>
          obtain ⟨rfl, rfl⟩ := hcut
          rename_i hKn
          refine hKn _ _ (wp_seq_k fun K2 hK2 => ?_)
          clear hKn
          go_cut [15] from 25 to 134 (fun y wx => y = .pointer (some ⟨wr.heap.size, 0, none⟩) ∧ Hid (Below wr.heap.size wr wx ∧ RowI wx wr.heap.size 59 (putZ q)))
          case first =>
            have HBW : Hid (∀ o, Below wr.heap.size wr (wr.alloc o)) := fun o => (Below.refl _ _).alloc (Nat.le_refl _) _
            have HPW : Hid (∀ r : PutN, RowI (wr.alloc (.cells #[.int .i64 (r.kind : Int), .int .i64 (r.d : Int), .int .i64 (r.a : Int), .int .i64 (r.b : Int), .int .i64 (r.k : Int)] 59)) wr.heap.size 59 (putZ r)) := fun r => _root_.Go.heap_alloc_new wr _
            obtain ⟨k1, k6, d8, a8, b8, kb, _⟩ := hok
            clear HLs HNx hok2 HV HPl o1 o2 o3 o4 o5 hK2
            by_cases h1 : op = 1
            · subst h1
              rw [if_pos rfl] at hpw
              subst hpw
              have hq : q = ⟨1, a, 0, 0, kk⟩ := by rw [HKp.out, if_neg (fun h => by have := h.1; simp [arN] at this)]
              subst hq
              clear HKp
              go_wp2_with fail
              go_meet
              exact ⟨rfl, HBW.out _, HPW.out ⟨1, a, 0, 0, kk⟩⟩
            have h1' : ((op : Int) == 1) = false := by rw [beq_eq_false_iff_ne]; omega
            rw [if_neg h1] at hpw
            by_cases h6 : op = 6
            · subst h6
              rw [if_pos rfl] at hpw
              subst hpw
              have hq : q = ⟨6, a, b, 0, kk⟩ := by rw [HKp.out, if_neg (fun h => by have := h.1; simp [arN] at this)]
              subst hq
              clear HKp
              go_wp2_with fail
              go_meet
              exact ⟨rfl, HBW.out _, HPW.out ⟨6, a, b, 0, kk⟩⟩
            have h6' : ((op : Int) == 6) = false := by rw [beq_eq_false_iff_ne]; omega
            rw [if_neg h6] at hpw
            subst hpw
            simp only at k1 k6 d8 a8 b8 HKp
            have har : arN op = true := by unfold arN; rw [decide_eq_true_eq]; omega
            obtain ⟨lb1, lb2, lb3⟩ := HSt.out.2.at' b a8
            obtain ⟨lc1, lc2, lc3⟩ := HSt.out.2.at' c b8
            have cb := HRw.out.cell b (by rw [ixZ_len, HSt.out.2.n8]; exact a8)
            have cc := HRw.out.cell c (by rw [ixZ_len, HSt.out.2.n8]; exact b8)
            rw [ixZ_get] at cb cc
            have a8' : (b : Int) < 8 := by omega
            have b8' : (c : Int) < 8 := by omega
            have HPo := hide (HPW.out ⟨op, a, b, c, 0⟩)
            generalize ix.getD b 0 = ib at *
            generalize ix.getD c 0 = ic at *
            have hXk : (st.1.getD b zPut).k < 4294967296 := hkn.bd _ (by rw [List.getD_eq_getElem?_getD, List.getElem?_eq_getElem (by rw [hkn.l8]; exact a8)]; exact List.getElem_mem _)
            have hYk : (st.1.getD c zPut).k < 4294967296 := hkn.bd _ (by rw [List.getD_eq_getElem?_getD, List.getElem?_eq_getElem (by rw [hkn.l8]; exact b8)]; exact List.getElem_mem _)
            generalize st.1.getD b zPut = X at *
            generalize st.1.getD c zPut = Y at *
            have hsame : ¬ (X.kind = 1 ∧ Y.kind = 1) → q = ⟨op, a, b, c, 0⟩ := fun h => by rw [HKp.out, if_neg (fun hh => h hh.2)]
            cases ib with
            | zero =>
              have hq := hsame (fun h => by rw [lb2 rfl] at h; exact absurd h.1 (by decide))
              subst hq
              clear HKp lb3 lc3 hsame
              go_wp2_with fail
              go_meet
              exact ⟨rfl, HBW.out _, HPo.out⟩
            | succ jb =>
              have hjb := lb3 jb rfl
              have hib : (0 : Int) < ((jb + 1 : Nat) : Int) := by omega
              have hib2 : ((jb + 1 : Nat) : Int) - 1 = (jb : Int) := by omega
              have hjl : jb < st.2.length := (List.getElem?_eq_some_iff.1 hjb).1
              have hkl : st.2.length ≤ 8 := by have := hkn.len; omega
              obtain ⟨g, cap, hform, _, hgl⟩ := HO.out.form (by omega)
              cases hform
              obtain ⟨x0, x1, x2, x3, x4⟩ := put_cells HO.out jb X hjb
              have hjl' : (jb : Int) < (st.2.length : Int) := by omega
              cases ic with
              | zero =>
                have hq := hsame (fun h => by rw [lc2 rfl] at h; exact absurd h.2 (by decide))
                subst hq
                clear HKp lb3 lc3 hsame
                go_wp2_with fail
                go_meet
                exact ⟨rfl, HBW.out _, HPo.out⟩
              | succ jc =>
                have hjc := lc3 jc rfl
                have hic : (0 : Int) < ((jc + 1 : Nat) : Int) := by omega
                have hic2 : ((jc + 1 : Nat) : Int) - 1 = (jc : Int) := by omega
                have hjm : jc < st.2.length := (List.getElem?_eq_some_iff.1 hjc).1
                have hjm' : (jc : Int) < (st.2.length : Int) := by omega
                obtain ⟨y0, y1, y2, y3, y4⟩ := put_cells HO.out jc Y hjc
                by_cases hX1 : X.kind = 1
                · have hX1' : ((X.kind : Int) == 1) = true := by rw [beq_iff_eq]; omega
                  by_cases hY1 : Y.kind = 1
                  · have hY1' : ((Y.kind : Int) == 1) = true := by rw [beq_iff_eq]; omega
                    have hr := fun w' => works_any op X.k Y.k w' (by omega) (by omega) (by omega) (by omega) (by unfold arN at har; rw [decide_eq_true_eq] at har; omega) (by unfold arN at har; rw [decide_eq_true_eq] at har; omega)
                    have hwb := wk_bd op X.k Y.k (by omega) (by omega) (by omega) (by omega)
                    have hq : q = ⟨1, a, 0, 0, (wk op X.k Y.k).toNat⟩ := by rw [HKp.out, if_pos ⟨har, hX1, hY1⟩]
                    obtain ⟨cz, hcz⟩ := Int.eq_ofNat_of_zero_le hwb.1
                    rw [hcz] at hr hq
                    rw [Int.toNat_natCast] at hq
                    have HRk := hide hr
                    subst hq
                    clear HKp lb3 lc3 hsame hr hwb hcz
                    go_wp2_with fail
                    go_quiet ((go_at_call 84; exact Calls.quiet_of_same (unhide HRk _)))
                    go_wp2_with fail
                    go_meet
                    exact ⟨rfl, setCells5_below (below_drewN (HBW.out _) nq) (Nat.le_refl _) 0 ⟨1, a, 0, 0, cz⟩, setCells5_row (RowI.keep (w' := (wr.alloc (.cells #[.int .i64 (op : Int), .int .i64 (a : Int), .int .i64 (b : Int), .int .i64 (c : Int), .int .i64 0] 59)).drewN nq) HPo.out rfl) 0 ⟨1, a, 0, 0, cz⟩⟩
                  · have hY1' : ((Y.kind : Int) == 1) = false := by rw [beq_eq_false_iff_ne]; omega
                    have hq := hsame (fun h => hY1 h.2)
                    subst hq
                    clear HKp lb3 lc3 hsame
                    go_wp2_with fail
                    go_meet
                    exact ⟨rfl, HBW.out _, HPo.out⟩
                · have hX1' : ((X.kind : Int) == 1) = false := by rw [beq_eq_false_iff_ne]; omega
                  have hq := hsame (fun h => hX1 h.1)
                  subst hq
                  clear HKp lb3 lc3 hsame
                  go_wp2_with fail
                  go_meet
                  exact ⟨rfl, HBW.out _, HPo.out⟩
          case rest =>
          obtain ⟨rfl, HC⟩ := hcut
          obtain ⟨hbc, hpc⟩ := HC.out
          have hpd : p.d = a := by
            rw [hpw]
            split
            · rfl
            · split <;> rfl
          have hd8 := hok.2.2.1
          rw [hpd] at HNx HLs hd8
          have s0 := hpc.cell 0 (by simp [putZ]); have s1 := hpc.cell 1 (by simp [putZ]); have s2 := hpc.cell 2 (by simp [putZ]); have s3 := hpc.cell 3 (by simp [putZ]); have s4 := hpc.cell 4 (by simp [putZ])
          simp only [gz, putZ, List.getD_cons_zero, List.getD_cons_succ] at s0 s1 s2 s3 s4
          have hOc := own_grow HO.out hbc
          have hwc := hbc.size
          have hcl := hpc.lt
          have hrc : RowI wc w.heap.size 3 (ixZ ix) := HRw.out.keep (hbc.block _ hwz)
          have HBc : Hid (Below w.heap.size w wc) := HBl.out.trans (hbc.mono (by omega))
          have hkl : st.2.length ≤ 8 := by have := hkn.len; omega
          have HRR : Hid (∀ o w3, (wc.alloc o).grownBy w3 (Value.slice va st.2.length vc).ownBlock → RowI w3 w.heap.size 3 (ixZ ix)) := fun o w3 hg => by
            refine hrc.keep ((hg.block _ (by rw [size_alloc1]; omega) (fun e => ?_)).trans (Below.heap_alloc wc _ _ (by omega)))
            have := (row_lt hOc _ e.symm).1
            omega
          have hil : (ixZ ix).length = 8 := by rw [ixZ_len, HSt.out.2.n8]
          have hd8' : (a : Int) < 8 := by omega
          have HO1 := hide hOc; have HLs' := hide HLs
          clear HLs hOc hrc hbc hpc HKp hok hok2 hpw HV HPl o1 o2 o3 o4 o5 hpd hkn
          obtain ⟨q0, q1, q2, q3, q4⟩ := q
          simp only at s0 s1 s2 s3 s4
          refine hK2 _ _ ?_
          go_wp2_with (at_builtin; refine wpList_append_lies _ rfl _ _ 61 rfl (w.heap.size + 1) 59 inf _ 5 40 Tryd.underlying61 HInf.out HZ.out HSz.out HBy.out rfl (by decide) (.slice va st.2.length vc) st.2.length (putCs st.2) rfl (HO1.out.alloc _) ⟨wc.heap.size, 0, none⟩ 1 1 [.int .i64 (q0 : Int), .int .i64 (q1 : Int), .int .i64 (q2 : Int), .int .i64 (q3 : Int), .int .i64 (q4 : Int)] rfl rfl (World.news_of_block (_root_.Go.heap_alloc_new wc _)) (fun u hu => by simp at hu; rcases hu with rfl | rfl | rfl | rfl | rfl <;> rfl) (by decide) (by unfold maxLen; omega) (by omega) (by rw [size_alloc1]; omega) (wc.heap.size + 1) (by rw [size_alloc1]) ?_; intro g2' cap2 w3 hown2 hgr2 hat2 hlt2; have HO3 := hide hown2; have HGr := hide hgr2; have hrr := HRR.out _ w3 hgr2; have ca := hrr.cell a (by omega); have fz := hrr.frozen a; have HRr3 := hide hrr; clear hown2 hgr2 hat2 hrr)
          refine ⟨⟨k + 1, j + 4, (st.1.set a ⟨q0, q1, q2, q3, q4⟩, st.2 ++ [⟨q0, q1, q2, q3, q4⟩]), ix.set a (st.2.length + 1), by omega, by have := HJ.out; omega, by go_num, ⟨HNx.out, HLs'.out⟩, ?_, ?_, ?_⟩, by simp [intOf]; omega⟩
          · rw [putCs_snoc, List.length_append]
            refine ownsRow_keep HO3.out (fun g hg => heap_set_other _ _ ?_)
            have := (row_lt HO3.out g hg).1
            omega
          · rw [← ixZ_set, show ((st.2.length + 1 : Nat) : Int) = (st.2.length : Int) + 1 by omega]
            exact HRr3.out.set a _
          · exact ((HBc.out.alloc (by omega) _).grown HGr.out (by rw [size_alloc1]; omega) (fun g hg => by have := (row_lt HO1.out g hg).1; omega)).setCell (p := ⟨w.heap.size, a, none⟩) (Nat.le_refl _) _
        · have hnk : nPl s = k := by omega
          have hpk : plW (wdAt s k : Nat) = false := by
            cases hq : plW (wdAt s k : Nat)
            · rfl
            · exfalso
              unfold nPl at hkp
              have e : s.size / 4 - 1 = k := by omega
              rw [e, hq, if_pos rfl] at hkp
              exact hkp hlt
          have hpk' : plB (fop (wdAt s k : Nat)) (fa (wdAt s k : Nat)) (fb (wdAt s k : Nat)) (fc (wdAt s k : Nat)) = false := hpk
          rw [hpk'] at hpl
          have HPl := hide hpl
          have HSt' : Hid (st = ((blkPuts s).take (k + 1)).foldl knS kn0 ∧ LastR st.1 st.2 ix) := by
            refine ⟨?_, HSt.out.2⟩
            rw [List.take_of_length_le (by omega)]
            have := HSt.out.1
            rw [List.take_of_length_le (by omega)] at this
            exact this
          clear hpk hpk' hpl hv hown hrow hbl' hj hkp hnk
          generalize wdAt s k = x at *
          go_wp2_with fail
          refine (unhide HV _).mono ?_
          rintro e w' ⟨rfl, hw⟩
          obtain rfl := hw.symm
          go_wp2_with fail
          refine (unhide HPl _).mono ?_
          rintro e w' ⟨rfl, hw⟩
          obtain rfl := hw.symm
          go_wp2_with fail
          exact ⟨⟨k + 1, j + 4, st, ix, by omega, by have := HJ.out; omega, by go_num, HSt'.out, HO.out, HRw.out, HBl.out⟩, by simp [intOf]; omega⟩
      · have hlt' : ¬ (j : Int) < (s.size : Int) := by omega
        have hL : st.2 = wKn (blkPuts s) := by
          have := HSt.out.1
          rw [List.take_of_length_le (by omega)] at this
          rw [this]; rfl
        have hOk := wKn_ok HOkB.out
        rw [← hL, hbl] at hOk
        have HP : Hid (planT (ownP s) = planT (idle st.2)) := by unfold Hid ownP; rw [← hL]
        have hl8 : st.2.length ≤ 8 := by omega
        have HOk2 := hide hOk.1
        generalize st.2 = L at *
        have hwr := HBl.out.size
        clear hown hrow hbl' hj hL hOk HSt
        obtain ⟨wo, hwo⟩ : ∃ wo, wo = wr := ⟨_, rfl⟩
        subst hwo
        go_wp2_with fail
        go_loopw [17, 18] (fun t i wx => ∃ (m : Nat) (T : List UInt8), m ≤ L.length ∧ i = .int .i64 m ∧ t = .string (bya T) ∧ T.length ≤ 8 * m ∧ Hid (T ++ planT (idle (L.drop m)) = planT (idle L)) ∧ Hid (Below wo.heap.size wo wx)) (fun _ i _ => L.length - (intOf i).toNat)
        case atStart => exact ⟨0, [], Nat.zero_le _, rfl, rfl, Nat.le_refl _, rfl, Below.refl _ _⟩
        case round =>
          obtain ⟨m, T, hm, rfl, rfl, hTl, HT, HBx⟩ := hrel
          by_cases hlt2 : m < L.length
          · have hlt2' : (m : Int) < (L.length : Int) := by omega
            have hown1 := own_grow HO.out HBx.out
            have HNd := hide (needed_any (w.heap.size + 1) L hl8 _ m (Nat.le_refl _) hlt2 _ wr hown1)
            have hp := getD_some hlt2
            have hid := idle_drop hp
            have hokp := HOk2.out _ (List.mem_of_getElem? hp)
            generalize L.getD m zPut = p at *
            obtain ⟨g, cap, hform, _, hgl⟩ := hown1.form (by omega)
            cases hform
            have HB1 : Hid (Below w.heap.size w wr) := HBl.out.trans (HBx.out.mono hwr)
            cases hq : nd (L.drop (m + 1)) p.d
            · rw [hq] at HNd
              rw [hq, if_neg (by decide)] at hid
              rw [hid] at HT
              clear hown1 hp hid hq hokp
              go_wp2_with fail
              refine (unhide HNd).mono ?_
              rintro e w1 ⟨rfl, hb1⟩
              have HB2 : Hid (Below wo.heap.size wo w1) := HBx.out.trans (hb1.mono HBx.out.size)
              clear hb1
              go_wp2_with fail
              exact ⟨⟨m + 1, T, by omega, by go_num, rfl, by omega, HT.out, HB2.out⟩, by simp [intOf]; omega⟩
            · rw [hq] at HNd
              rw [hq, if_pos rfl] at hid
              rw [hid] at HT
              obtain ⟨x0, x1, x2, x3, x4⟩ := put_cells hown1 m p hp
              have HT2 : Hid ((T ++ putT p) ++ planT (idle (L.drop (m + 1))) = planT (idle L)) := by
                unfold Hid
                rw [← HT.out]
                simp [planT]
              have hT2l : (T ++ putT p).length ≤ 8 * (m + 1) := by rw [List.length_append, putT_len]; omega
              have HT2l := hide hT2l
              obtain ⟨p0, p1, p2, p3, p4⟩ := p
              obtain ⟨k1, k6, d8, a8, b8, kb, _⟩ := hokp
              simp only at k1 k6 d8 a8 b8 kb x0 x1 x2 x3 x4
              have NR := hide numberI
              have HD : Hid (((((bya T ++ numI 1 p0) ++ numI 1 p1) ++ numI 1 p2) ++ numI 1 p3) ++ numI 4 p4 = bya (T ++ putT ⟨p0, p1, p2, p3, p4⟩)) := by
                unfold Hid numI
                simp only [Int.reduceToNat]
                rw [num1 p0 (by omega), num1 p1 (by omega), num1 p2 (by omega), num1 p3 (by omega)]
                simp only [bya_app]
                simp [putT]
              have z0 : (numI 1 p0).size ≤ 8 := by unfold numI; rw [bya_size, numB_len]; decide
              have z1 : (numI 1 p1).size ≤ 8 := by unfold numI; rw [bya_size, numB_len]; decide
              have z2 : (numI 1 p2).size ≤ 8 := by unfold numI; rw [bya_size, numB_len]; decide
              have z3 : (numI 1 p3).size ≤ 8 := by unfold numI; rw [bya_size, numB_len]; decide
              have z4 : (numI 4 p4).size ≤ 8 := by unfold numI; rw [bya_size, numB_len]; decide
              have zt : (bya T).size ≤ 64 := by rw [bya_size]; omega
              generalize bya T = DT at *
              have c1 : ∀ w', (Op.stringOp .add DT (numI 1 p0)).run Tryd.prog w' = .ok (.string (DT ++ (numI 1 p0))) w' := fun w' => run_string_add_sum w' DT (numI 1 p0) (by omega)
              have c2 : ∀ w', (Op.stringOp .add (DT ++ (numI 1 p0)) (numI 1 p1)).run Tryd.prog w' = .ok (.string (DT ++ (numI 1 p0) ++ (numI 1 p1))) w' := fun w' => run_string_add_sum w' _ (numI 1 p1) (by simp only [ByteArray.size_append]; omega)
              have c3 : ∀ w', (Op.stringOp .add (DT ++ (numI 1 p0) ++ (numI 1 p1)) (numI 1 p2)).run Tryd.prog w' = .ok (.string (DT ++ (numI 1 p0) ++ (numI 1 p1) ++ (numI 1 p2))) w' := fun w' => run_string_add_sum w' _ (numI 1 p2) (by simp only [ByteArray.size_append]; omega)
              have c4 : ∀ w', (Op.stringOp .add (DT ++ (numI 1 p0) ++ (numI 1 p1) ++ (numI 1 p2)) (numI 1 p3)).run Tryd.prog w' = .ok (.string (DT ++ (numI 1 p0) ++ (numI 1 p1) ++ (numI 1 p2) ++ (numI 1 p3))) w' := fun w' => run_string_add_sum w' _ (numI 1 p3) (by simp only [ByteArray.size_append]; omega)
              have c5 : ∀ w', (Op.stringOp .add (DT ++ (numI 1 p0) ++ (numI 1 p1) ++ (numI 1 p2) ++ (numI 1 p3)) (numI 4 p4)).run Tryd.prog w' = .ok (.string (DT ++ (numI 1 p0) ++ (numI 1 p1) ++ (numI 1 p2) ++ (numI 1 p3) ++ (numI 4 p4))) w' := fun w' => run_string_add_sum w' _ (numI 4 p4) (by simp only [ByteArray.size_append]; omega)
              have b0 : p0 < 9223372036854775808 := by omega
              have b1 : p1 < 9223372036854775808 := by omega
              have b2 : p2 < 9223372036854775808 := by omega
              have b3 : p3 < 9223372036854775808 := by omega
              have b4 : p4 < 9223372036854775808 := by omega
              have B0 := hide b0; have B1 := hide b1; have B2 := hide b2; have B3 := hide b3; have B4 := hide b4
              clear z0 z1 z2 z3 z4 zt b0 b1 b2 b3 b4 k1 k6 d8 a8 b8 kb hT2l
              clear hown1 hp hid hq HT
              go_wp2_with fail
              refine (unhide HNd).mono ?_
              rintro e w1 ⟨rfl, hb1⟩
              have HB2 : Hid (Below wo.heap.size wo w1) := HBx.out.trans (hb1.mono HBx.out.size)
              have x0 := (below_cell' hb1 g _ hgl).trans x0
              have x1 := (below_cell' hb1 g _ hgl).trans x1
              have x2 := (below_cell' hb1 g _ hgl).trans x2
              have x3 := (below_cell' hb1 g _ hgl).trans x3
              have x4 := (below_cell' hb1 g _ hgl).trans x4
              have hgl := Nat.lt_of_lt_of_le hgl hb1.size
              clear hb1
              go_upto_region 33 with fail
              go_region_held3 (fun w' => w'.cell? ⟨g, m * 5, none⟩ = some (.int .i64 (p0 : Int)) ∧ w'.cell? ⟨g, m * 5 + 1, none⟩ = some (.int .i64 (p1 : Int)) ∧ w'.cell? ⟨g, m * 5 + 1 + 1, none⟩ = some (.int .i64 (p2 : Int)) ∧ w'.cell? ⟨g, m * 5 + 1 + 1 + 1, none⟩ = some (.int .i64 (p3 : Int)) ∧ w'.cell? ⟨g, m * 5 + 1 + 1 + 1 + 1, none⟩ = some (.int .i64 (p4 : Int))) (go_keep) ((go_at_call 94; refine (unhide NR _ _ _ (by first | exact .inl rfl | exact .inr rfl) (by first | exact B0.out | exact B1.out | exact B2.out | exact B3.out | exact B4.out)).mono ?_; rintro e w2 ⟨rfl, hb2⟩; have HB2 : Hid (Below wo.heap.size wo w2) := (by first | exact HB2.out.trans (hb2.mono HB2.out.size) | exact HB2.out.drew.trans (hb2.mono HB2.out.drew.size)); have kk := fun j => below_cell' hb2 g j (by first | exact hgl | assumption); have hgl : g < w2.heap.size := Nat.lt_of_lt_of_le (by first | exact hgl | assumption) hb2.size))
              go_wp2_with fail
              exact ⟨⟨m + 1, T ++ putT ⟨p0, p1, p2, p3, p4⟩, by omega, by go_num, by rw [HD.out], HT2l.out, HT2.out, HB2.out⟩, by simp [intOf]; omega⟩
          · have hlt2' : ¬ (m : Int) < (L.length : Int) := by omega
            have hme : m = L.length := by omega
            have HE : Hid (T = planT (ownP s)) := by
              unfold Hid
              have := HT.out
              rw [hme, List.drop_length] at this
              rw [HP.out, ← this]
              simp [planT, idle]
            have HBf : Hid (Below w.heap.size w wr) := HBl.out.trans (HBx.out.mono hwr)
            go_wp2_with fail
            go_ret2
            refine ⟨HBf.out, .inl ⟨HBk.out, ?_⟩⟩
            rw [← HE.out]
            rfl
  · have HIb := hide (isBlock_no s w h hs)
    have HN := hide h
    clear h
    go_enter Tryd.func56, Tryd.ntmps56
    go_wp2_with fail
    refine (unhide HIb).mono ?_
    rintro e w' ⟨rfl, hw⟩
    obtain rfl := hw.symm
    go_wp2_with fail
    go_ret2
    exact ⟨Below.refl _ _, .inr ⟨HN.out, rfl⟩⟩
end Go.Proofs.YtmmflekajbeamaaDoor
