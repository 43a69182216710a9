/-
  Translates: Block through the door, and the law of it (crib.Block, criblaw.blocks).
  Sound: the document's own block (known).
  Turned: a put out of any numbers (put).
-/
import Derived.Test.YtmmflekajbeamaaDoorS28
namespace Go.Proofs.YtmmflekajbeamaaDoor
open Go.RowKit

theorem BlkPost.form {mem : List Int} {pc : Int} {w w' : World} {e : Ending} (h : BlkPost mem pc w e w') : ∃ D n, e = .returned (.tuple #[.string D, .int .i64 n]) := by
  obtain ⟨_, ⟨_, rfl⟩ | ⟨_, rfl⟩⟩ := h
  · exact ⟨_, _, rfl⟩
  · exact ⟨_, _, rfl⟩
theorem BlkPost.one {mem : List Int} {pc : Int} {w1 w2 w1' w2' : World} {e1 e2 : Ending} (h1 : BlkPost mem pc w1 e1 w1') (h2 : BlkPost mem pc w2 e2 w2') : e1 = e2 := by
  obtain ⟨_, ⟨a, rfl⟩ | ⟨a, rfl⟩⟩ := h1 <;> obtain ⟨_, ⟨c, rfl⟩ | ⟨c, rfl⟩⟩ := h2
  all_goals first | rfl | exact absurd a c | exact absurd c a

set_option maxRecDepth 100000 in
set_option maxHeartbeats 2000000 in
theorem cribBlock_any (mem : List Int) (pc : Int) (w : World) (ht : Tab w) (hl : mem.length = 128) :
    Calls Tryd.prog 25 #[.agg (S mem), .int .i64 pc] w (BlkPost mem pc w) := by
  obtain ⟨W0, hW0⟩ : ∃ W0, W0 = w.alloc (.cells (S mem) 32) := ⟨_, rfl⟩
  have HW := hide hW0
  have hb0 : Below w.heap.size w W0 := by rw [hW0]; exact (Below.refl _ _).alloc (Nat.le_refl _) _
  have r0 : RowI W0 w.heap.size 32 mem := by unfold RowI; rw [hW0, _root_.Go.heap_alloc_new]
  have HR0 := hide r0; have HB0 := hide hb0
  have HC := hide (block_any mem pc W0 (ht.below ht.pos hb0) hl)
  clear r0 hb0 hW0
  go_enter Tryd.func25, Tryd.ntmps25
  go_wp2_with (refine wpList_loadR rfl Tryd.underlying32 size128 rfl _ rfl w.heap.size rfl (by rw [← HW.out]; exact HR0.out.isRow 128 hl) (S mem) (by rw [← HW.out]; exact HR0.out.rowD) ?_)
  rw [← HW.out]
  refine (unhide HC).mono ?_
  intro e w1 hpost
  obtain ⟨D, n, rfl⟩ := hpost.form
  have HP := hide (hpost.up HB0.out)
  clear hpost
  go_wp2_with fail
  go_ret2
  exact HP.out

set_option maxRecDepth 100000 in
set_option maxHeartbeats 2000000 in
theorem blocks_any (mem : List Int) (pc : Int) (w : World) (ht : Tab w) (hl : mem.length = 128) :
    Calls Tryd.prog 21 #[.agg (S mem), .int .i64 pc] w fun e' w' => e' = .returned (.bool true) ∧ Below w.heap.size w w' := by
  obtain ⟨W0, hW0⟩ : ∃ W0, W0 = w.alloc (.cells (S mem) 32) := ⟨_, rfl⟩
  have HW := hide hW0
  have hb0 : Below w.heap.size w W0 := by rw [hW0]; exact (Below.refl _ _).alloc (Nat.le_refl _) _
  have r0 : RowI W0 w.heap.size 32 mem := by unfold RowI; rw [hW0, _root_.Go.heap_alloc_new]
  have HR0 := hide r0; have HB0 := hide hb0
  have hlt0 := r0.lt
  have H1 := hide (cribBlock_any mem pc W0 (ht.below ht.pos hb0) hl)
  have H2 := hide (fun w' => refBlock_any mem pc w' hl)
  clear r0 hb0 hW0 ht
  go_enter Tryd.func21, Tryd.ntmps21
  go_wp2_with (refine wpList_loadR rfl Tryd.underlying32 size128 rfl _ rfl w.heap.size rfl (by rw [← HW.out]; exact HR0.out.isRow 128 hl) (S mem) (by rw [← HW.out]; exact HR0.out.rowD) ?_)
  rw [← HW.out]
  refine (unhide H1).mono ?_
  intro e w1 hpost
  obtain ⟨D, n, rfl⟩ := hpost.form
  have HP1 := hide hpost
  have HB1 : Hid (Below w.heap.size w w1) := HB0.out.trans (hpost.1.mono HB0.out.size)
  have HR1 := hide (HR0.out.keep (hpost.1.block _ hlt0))
  clear hpost H1
  go_wp2_with (refine wpList_loadR rfl Tryd.underlying32 size128 rfl _ rfl w.heap.size rfl (HR1.out.isRow 128 hl) (S mem) HR1.out.rowD ?_)
  refine (unhide H2 _).mono ?_
  intro e w2 hpost
  have he := BlkPost.one HP1.out hpost
  subst he
  have HB2 : Hid (Below w.heap.size w w2) := HB1.out.trans (hpost.1.mono HB1.out.size)
  have HNm := hide (fun w' => num_any n w')
  clear hpost H2 HP1
  go_wp2_with fail
  refine (unhide HNm _).mono ?_
  rintro e w' ⟨rfl, hw'⟩
  obtain rfl := hw'.symm
  go_wp2_with fail
  go_ret
  exact ⟨ret_bool (by simp), HB2.out⟩
end Go.Proofs.YtmmflekajbeamaaDoor

namespace Go.Proofs.YtmmflekajbeamaaDoor
open Go.RowKit

def knM : List Int := (List.replicate 128 (0 : Int)).set 0 17825799
def knZ0 : List Int := zeroZ.set 8 17825799
theorem knZ0_mk : knZ0 = mkZ (List.replicate 8 0) knM (0 : Nat) 0 := by decide
theorem knR_WL : WL 8 (List.replicate 8 (0 : Int)) := ⟨by simp, fun x hx => by rw [List.eq_of_mem_replicate hx]; decide⟩
theorem knM_WL : WL 128 knM := ⟨by simp [knM], fun x hx => by
  unfold knM at hx
  rcases List.mem_or_eq_of_mem_set hx with h | h
  · rw [List.eq_of_mem_replicate h]; decide
  · rw [h]; decide⟩
theorem knM_txt : blkTxt knM 0 = numB 4 17825799 ++ numB 4 0 := by decide
theorem kn_step : stp knZ0 = (mkZ ((List.replicate 8 (0 : Int)).set 1 7) knM 1 0, 0) := by
  rw [knZ0_mk, stp_plain knR_WL knM_WL (by decide) (by decide)]
  decide
set_option maxRecDepth 100000 in
set_option maxHeartbeats 4000000 in
theorem known_true (w : World) (ht : Tab w) :
    Calls Tryd.prog 23 #[] w fun e' w' => e' = .returned (.bool true) ∧ Below w.heap.size w w' := by
  have zz := zero34
  have hin : inM knM 0 := ⟨WL_allW knM_WL, by decide, by decide⟩
  have HBk := hide (fun w' (hb : Below w.heap.size w w') => cribBlock_any knM 0 w' (ht.below ht.pos hb) knM_WL.1)
  have HSt := hide (fun w' (hb : Below w.heap.size w w') => cribStep_any knZ0 w' (by simp [knZ0, zeroZ]) (ht.below ht.pos hb))
  rw [kn_step] at HSt
  simp only at HSt
  have HN1 := hide (fun w' => keepNumber_any 17825799 4 w' (by decide) (by decide))
  have HN2 := hide (fun w' => keepNumber_any 0 4 w' (by decide) (by decide))
  have hS : (S zeroZ).setIfInBounds 8 (Value.int .i64 17825799) = S knZ0 := by
    unfold S knZ0
    rw [List.setIfInBounds_toArray, List.map_set]
  obtain ⟨W1, hW1⟩ : ∃ W1, W1 = w.alloc (.cells (S knZ0) 34) := ⟨_, rfl⟩
  have hW1' : w.alloc (.cells ((S zeroZ).setIfInBounds 8 (Value.int .i64 17825799)) 34) = W1 := by rw [hS, hW1]
  have r1 : RowI W1 w.heap.size 34 knZ0 := by unfold RowI; rw [hW1, _root_.Go.heap_alloc_new]
  have b1 : Below w.heap.size w W1 := by rw [hW1]; exact (Below.refl _ _).alloc (Nat.le_refl _) _
  have hl : knZ0.length = 138 := by simp [knZ0, zeroZ]
  have g1 := range_row r1 8 128 (by omega)
  rw [show (knZ0.drop 8).take 128 = knM by rw [knZ0_mk]; exact mkZ_mems _ _ (by simp) knM_WL.1] at g1
  have s128 : (Tryd.prog.info? 32).map (·.size) = some (knM.map (Value.int .i64)).length := by rw [size128, List.length_map, knM_WL.1]
  have hz1 := r1.lt
  have HW := hide hW1'; have HR1 := hide r1; have HB1 := hide b1; have HG1 := hide g1; have HS128 := hide s128
  obtain ⟨Z1, hZ1⟩ : ∃ Z1, Z1 = mkZ ((List.replicate 8 (0 : Int)).set 1 7) knM 1 0 := ⟨_, rfl⟩
  rw [← hZ1] at HSt
  have hlZ : Z1.length = 138 := by rw [hZ1]; simp [mkZ, knM]
  have HZ : Hid (gz Z1 1 = 7 ∧ gz Z1 136 = 1 ∧ gz Z1 137 = 0) := by unfold Hid; rw [hZ1]; decide
  have HTx : Hid (bya (blkTxt knM 0) = bya (numB 4 17825799) ++ bya (numB 4 0)) := by unfold Hid; rw [knM_txt, bya_app]
  have z1 : (bya (numB 4 17825799)).size ≤ 8 := by rw [bya_size, numB_len]; decide
  have z2 : (bya (numB 4 0)).size ≤ 8 := by rw [bya_size, numB_len]; decide
  have HIn := hide hin
  generalize bya (numB 4 17825799) = D1 at *
  generalize bya (numB 4 0) = D2 at *
  clear ht hW1 hW1' r1 b1 g1 s128 hS hin hZ1
  go_enter Tryd.func23, Tryd.ntmps23
  go_wp2_with (refine wpList_load_midZ rfl 32 _ rfl w.heap.size 8 rfl knM _ (by rw [HW.out]; exact HG1.out) Tryd.underlying32 rfl HS128.out ?_)
  rw [HW.out]
  refine (unhide HBk _ HB1.out).mono ?_
  rintro e w2 ⟨hb2, ⟨_, rfl⟩ | ⟨hno, _⟩⟩
  rotate_left
  · exact absurd HIn.out hno
  have r2 := HR1.out.keep (hb2.block _ hz1)
  have rI := r2.isRow 138 hl
  have rD' := r2.rowD
  have HB2 : Hid (Below w.heap.size w w2) := HB1.out.trans (hb2.mono (by omega))
  have hz2 := hb2.size
  clear hb2 HBk r2
  go_wp2_with (refine wpList_load_S rfl _ rfl w.heap.size rfl rI _ rD' ?_)
  refine (unhide HSt _ HB2.out).mono ?_
  rintro e w3 ⟨rfl, hb3⟩
  have hz3 := hb3.size
  have HB3 : Hid (Below w.heap.size w (w3.alloc (.cells (S Z1) 34))) := (HB2.out.trans (hb3.mono (by omega))).alloc (by omega) _
  have r3 : RowI (w3.alloc (.cells (S Z1) 34)) w3.heap.size 34 Z1 := _root_.Go.heap_alloc_new w3 _
  have HR3 := hide r3
  clear hb3 rI rD' r3 HSt
  go_wp2_with (refine wpList_store_S rfl _ _ rfl w3.heap.size rfl Z1 rfl hlZ (by rw [isRowB_alloc_at _ _ _ _ _ rfl]; simp [S_size, zeroZ]) _ (setRow_alloc_at _ _ _ _ _ rfl) ?_)
  refine (unhide HN1 _).mono ?_
  rintro e w4 ⟨rfl, hb4⟩
  rw [HTx.out]
  have hz4 := hb4.size
  rw [size_alloc1] at hz4
  have HB4 : Hid (Below w.heap.size w w4) := HB3.out.trans (hb4.mono (by rw [size_alloc1]; omega))
  have HR4 := hide (HR3.out.keep (hb4.block _ (by rw [size_alloc1]; omega)))
  clear hb4
  go_wp2_with fail
  refine (unhide HN2 _).mono ?_
  rintro e w5 ⟨rfl, hb5⟩
  have r5 := HR4.out.keep (hb5.block _ (by omega))
  have HB5 : Hid (Below w.heap.size w w5) := HB4.out.trans (hb5.mono (by omega))
  have c1 := r5.cell 1 (by omega)
  have c6 := r5.cell 136 (by omega)
  have c7 := r5.cell 137 (by omega)
  rw [HZ.out.1] at c1
  rw [HZ.out.2.1] at c6
  rw [HZ.out.2.2] at c7
  clear hb5 r5
  go_wp2_with fail
  go_ret
  exact ⟨rfl, HB5.out⟩
end Go.Proofs.YtmmflekajbeamaaDoor

namespace Go.Proofs.YtmmflekajbeamaaDoor
open Go.RowKit

theorem pick_nat (c n : Int) (hn : 0 < n) : ∃ m : Nat, pickI c n = (m : Int) ∧ (m : Int) < n := by
  have h := pickI_bd c n hn
  obtain ⟨m, hm⟩ := Int.eq_ofNat_of_zero_le h.1
  exact ⟨m, hm, by omega⟩
theorem putT_app (K D A B C : Nat) (h0 : K < 256) (h1 : D < 256) (h2 : A < 256) (h3 : B < 256) : (((bya (numB 1 K) ++ bya (numB 1 D)) ++ bya (numB 1 A)) ++ bya (numB 1 B)) ++ bya (numB 4 C) = bya (putT ⟨K, D, A, B, C⟩) := by
  have e : ∀ v, v < 256 → numB 1 v = [UInt8.ofNat v] := fun v h => by
    simp only [numB, Nat.pow_zero, Nat.div_one]
    rw [Nat.mod_eq_of_lt h]
  rw [e K h0, e D h1, e A h2, e B h3]
  simp only [bya_app]
  simp [putT]
theorem bya_sz (k v : Nat) : (bya (numB k v)).size = k := by rw [bya_size, numB_len]

set_option maxRecDepth 100000 in
set_option maxHeartbeats 4000000 in
theorem put_any (k d a b c : Int) (hk : -9223372036854775808 ≤ k ∧ k ≤ 9223372036854775807) (hd : -9223372036854775808 ≤ d ∧ d ≤ 9223372036854775807) (ha : -9223372036854775808 ≤ a ∧ a ≤ 9223372036854775807) (hb : -9223372036854775808 ≤ b ∧ b ≤ 9223372036854775807) (hc : -9223372036854775808 ≤ c ∧ c ≤ 9223372036854775807) :
    ∃ q : PutN, okPut q ∧ q.k < 4294967296 ∧ ∀ w, Calls Tryd.prog 30 #[.agg #[.int .i64 k, .int .i64 d, .int .i64 a, .int .i64 b, .int .i64 c]] w fun e' w' => e' = .returned (.string (bya (putT q))) ∧ Below w.heap.size w w' := by
  obtain ⟨kn, ek, lk⟩ := pick_nat k 7 (by decide)
  obtain ⟨dn, ed, ld⟩ := pick_nat d 16 (by decide)
  obtain ⟨an, ea, la⟩ := pick_nat a 16 (by decide)
  obtain ⟨bn, eb, lb⟩ := pick_nat b 16 (by decide)
  obtain ⟨c1, e1, l1⟩ := pick_nat c 4294967296 (by decide)
  obtain ⟨c6, e6, l6⟩ := pick_nat c 4096 (by decide)
  have PK := hide (fun w' => pick_any k 7 w' hk.1 hk.2 (by decide) (by decide))
  have PD := hide (fun w' => pick_any d 16 w' hd.1 hd.2 (by decide) (by decide))
  have PA := hide (fun w' => pick_any a 16 w' ha.1 ha.2 (by decide) (by decide))
  have PB := hide (fun w' => pick_any b 16 w' hb.1 hb.2 (by decide) (by decide))
  have P1 := hide (fun w' => pick_any c 4294967296 w' hc.1 hc.2 (by decide) (by decide))
  have P6 := hide (fun w' => pick_any c 4096 w' hc.1 hc.2 (by decide) (by decide))
  rw [ek] at PK
  rw [ed] at PD
  rw [ea] at PA
  rw [eb] at PB
  rw [e1] at P1
  rw [e6] at P6
  clear ek ed ea eb e1 e6 hk hd ha hb hc
  have hkn : kn = 0 ∨ kn = 1 ∨ kn = 2 ∨ kn = 3 ∨ kn = 4 ∨ kn = 5 ∨ kn = 6 := by omega
  clear lk
  rcases hkn with rfl | rfl | rfl | rfl | rfl | rfl | rfl
  · refine ⟨⟨1, dn, 0, 0, c1⟩, ⟨by show dn < 16; omega, by show 0 < 16; omega, by show 0 < 16; omega, .inl ⟨rfl, rfl, rfl⟩⟩, by show c1 < 4294967296; omega, ?_⟩
    have HE := putT_app 1 dn 0 0 c1 (by omega) (by omega) (by omega) (by omega)
    have N0 := hide (fun w' => keepNumber_any 1 1 w' (by decide) (by omega))
    have N1 := hide (fun w' => keepNumber_any dn 1 w' (by decide) (by omega))
    have N2 := hide (fun w' => keepNumber_any 0 1 w' (by decide) (by omega))
    have N3 := hide (fun w' => keepNumber_any 0 1 w' (by decide) (by omega))
    have N4 := hide (fun w' => keepNumber_any c1 4 w' (by decide) (by omega))
    have z0 := bya_sz 1 1; have z1 := bya_sz 1 dn; have z2 := bya_sz 1 0; have z3 := bya_sz 1 0; have z4 := bya_sz 4 c1
    obtain ⟨D0, hD0⟩ : ∃ D, D = bya (numB 1 1) := ⟨_, rfl⟩
    obtain ⟨D1, hD1⟩ : ∃ D, D = bya (numB 1 dn) := ⟨_, rfl⟩
    obtain ⟨D2, hD2⟩ : ∃ D, D = bya (numB 1 0) := ⟨_, rfl⟩
    obtain ⟨D3, hD3⟩ : ∃ D, D = bya (numB 1 0) := ⟨_, rfl⟩
    obtain ⟨D4, hD4⟩ : ∃ D, D = bya (numB 4 c1) := ⟨_, rfl⟩
    have HE2 : Hid (D0 ++ D1 ++ D2 ++ D3 ++ D4 = bya (putT ⟨1, dn, 0, 0, c1⟩)) := by unfold Hid; rw [hD0, hD1, hD2, hD3, hD4]; exact HE
    rw [← hD0] at N0 z0
    rw [← hD1] at N1 z1
    rw [← hD2] at N2 z2
    rw [← hD3] at N3 z3
    rw [← hD4] at N4 z4
    clear hD0 hD1 hD2 hD3 hD4 HE
    intro w
    go_enter Tryd.func30, Tryd.ntmps30
    go_wp2_with fail
    refine (unhide PK _).mono ?_
    rintro e w' ⟨rfl, hw⟩
    obtain rfl := hw.symm
    clear PK
    go_wp2_with fail
    refine (unhide PD _).mono ?_
    rintro e w' ⟨rfl, hw⟩
    obtain rfl := hw.symm
    clear PD
    go_wp2_with fail
    refine (unhide PA _).mono ?_
    rintro e w' ⟨rfl, hw⟩
    obtain rfl := hw.symm
    clear PA
    go_wp2_with fail
    refine (unhide PB _).mono ?_
    rintro e w' ⟨rfl, hw⟩
    obtain rfl := hw.symm
    clear PB
    go_wp2_with fail
    refine (unhide P1 _).mono ?_
    rintro e w' ⟨rfl, hw⟩
    obtain rfl := hw.symm
    clear P1
    go_wp2_with fail
    refine (unhide N0 _).mono ?_
    rintro e w1 ⟨rfl, hb1⟩
    have HB1 : Hid (Below w.heap.size w w1) := ((Below.refl _ _).alloc (Nat.le_refl _) _).trans (hb1.mono (by rw [size_alloc1]; omega))
    have hz1 := hb1.size
    rw [size_alloc1] at hz1
    clear hb1 N0
    go_wp2_with fail
    refine (unhide N1 _).mono ?_
    rintro e w2 ⟨rfl, hb2⟩
    have HB2 : Hid (Below w.heap.size w w2) := HB1.out.trans (hb2.mono (by omega))
    have hz2 := hb2.size
    clear hb2 N1
    go_wp2_with fail
    refine (unhide N2 _).mono ?_
    rintro e w3 ⟨rfl, hb3⟩
    have HB3 : Hid (Below w.heap.size w w3) := HB2.out.trans (hb3.mono (by omega))
    have hz3 := hb3.size
    clear hb3 N2
    go_wp2_with fail
    refine (unhide N3 _).mono ?_
    rintro e w4 ⟨rfl, hb4⟩
    have HB4 : Hid (Below w.heap.size w w4) := HB3.out.trans (hb4.mono (by omega))
    have hz4 := hb4.size
    clear hb4 N3
    go_wp2_with fail
    refine (unhide N4 _).mono ?_
    rintro e w5 ⟨rfl, hb5⟩
    have HB5 : Hid (Below w.heap.size w w5) := HB4.out.trans (hb5.mono (by omega))
    clear hb5 N4
    go_wp2_with fail
    go_ret
    exact ⟨by rw [← HE2.out]; rfl, HB5.out⟩
  · refine ⟨⟨2, dn, an, bn, 0⟩, ⟨by show dn < 16; omega, by show an < 16; omega, by show bn < 16; omega, .inr (.inl ⟨by show 2 ≤ 2; decide, by show 2 ≤ 5; decide, rfl⟩)⟩, by show 0 < 4294967296; omega, ?_⟩
    have HE := putT_app 2 dn an bn 0 (by omega) (by omega) (by omega) (by omega)
    have N0 := hide (fun w' => keepNumber_any 2 1 w' (by decide) (by omega))
    have N1 := hide (fun w' => keepNumber_any dn 1 w' (by decide) (by omega))
    have N2 := hide (fun w' => keepNumber_any an 1 w' (by decide) (by omega))
    have N3 := hide (fun w' => keepNumber_any bn 1 w' (by decide) (by omega))
    have N4 := hide (fun w' => keepNumber_any 0 4 w' (by decide) (by omega))
    have z0 := bya_sz 1 2; have z1 := bya_sz 1 dn; have z2 := bya_sz 1 an; have z3 := bya_sz 1 bn; have z4 := bya_sz 4 0
    obtain ⟨D0, hD0⟩ : ∃ D, D = bya (numB 1 2) := ⟨_, rfl⟩
    obtain ⟨D1, hD1⟩ : ∃ D, D = bya (numB 1 dn) := ⟨_, rfl⟩
    obtain ⟨D2, hD2⟩ : ∃ D, D = bya (numB 1 an) := ⟨_, rfl⟩
    obtain ⟨D3, hD3⟩ : ∃ D, D = bya (numB 1 bn) := ⟨_, rfl⟩
    obtain ⟨D4, hD4⟩ : ∃ D, D = bya (numB 4 0) := ⟨_, rfl⟩
    have HE2 : Hid (D0 ++ D1 ++ D2 ++ D3 ++ D4 = bya (putT ⟨2, dn, an, bn, 0⟩)) := by unfold Hid; rw [hD0, hD1, hD2, hD3, hD4]; exact HE
    rw [← hD0] at N0 z0
    rw [← hD1] at N1 z1
    rw [← hD2] at N2 z2
    rw [← hD3] at N3 z3
    rw [← hD4] at N4 z4
    clear hD0 hD1 hD2 hD3 hD4 HE
    intro w
    go_enter Tryd.func30, Tryd.ntmps30
    go_wp2_with fail
    refine (unhide PK _).mono ?_
    rintro e w' ⟨rfl, hw⟩
    obtain rfl := hw.symm
    clear PK
    go_wp2_with fail
    refine (unhide PD _).mono ?_
    rintro e w' ⟨rfl, hw⟩
    obtain rfl := hw.symm
    clear PD
    go_wp2_with fail
    refine (unhide PA _).mono ?_
    rintro e w' ⟨rfl, hw⟩
    obtain rfl := hw.symm
    clear PA
    go_wp2_with fail
    refine (unhide PB _).mono ?_
    rintro e w' ⟨rfl, hw⟩
    obtain rfl := hw.symm
    clear PB
    go_wp2_with fail
    refine (unhide N0 _).mono ?_
    rintro e w1 ⟨rfl, hb1⟩
    have HB1 : Hid (Below w.heap.size w w1) := ((Below.refl _ _).alloc (Nat.le_refl _) _).trans (hb1.mono (by rw [size_alloc1]; omega))
    have hz1 := hb1.size
    rw [size_alloc1] at hz1
    clear hb1 N0
    go_wp2_with fail
    refine (unhide N1 _).mono ?_
    rintro e w2 ⟨rfl, hb2⟩
    have HB2 : Hid (Below w.heap.size w w2) := HB1.out.trans (hb2.mono (by omega))
    have hz2 := hb2.size
    clear hb2 N1
    go_wp2_with fail
    refine (unhide N2 _).mono ?_
    rintro e w3 ⟨rfl, hb3⟩
    have HB3 : Hid (Below w.heap.size w w3) := HB2.out.trans (hb3.mono (by omega))
    have hz3 := hb3.size
    clear hb3 N2
    go_wp2_with fail
    refine (unhide N3 _).mono ?_
    rintro e w4 ⟨rfl, hb4⟩
    have HB4 : Hid (Below w.heap.size w w4) := HB3.out.trans (hb4.mono (by omega))
    have hz4 := hb4.size
    clear hb4 N3
    go_wp2_with fail
    refine (unhide N4 _).mono ?_
    rintro e w5 ⟨rfl, hb5⟩
    have HB5 : Hid (Below w.heap.size w w5) := HB4.out.trans (hb5.mono (by omega))
    clear hb5 N4
    go_wp2_with fail
    go_ret
    exact ⟨by rw [← HE2.out]; rfl, HB5.out⟩
  · refine ⟨⟨3, dn, an, bn, 0⟩, ⟨by show dn < 16; omega, by show an < 16; omega, by show bn < 16; omega, .inr (.inl ⟨by show 2 ≤ 3; decide, by show 3 ≤ 5; decide, rfl⟩)⟩, by show 0 < 4294967296; omega, ?_⟩
    have HE := putT_app 3 dn an bn 0 (by omega) (by omega) (by omega) (by omega)
    have N0 := hide (fun w' => keepNumber_any 3 1 w' (by decide) (by omega))
    have N1 := hide (fun w' => keepNumber_any dn 1 w' (by decide) (by omega))
    have N2 := hide (fun w' => keepNumber_any an 1 w' (by decide) (by omega))
    have N3 := hide (fun w' => keepNumber_any bn 1 w' (by decide) (by omega))
    have N4 := hide (fun w' => keepNumber_any 0 4 w' (by decide) (by omega))
    have z0 := bya_sz 1 3; have z1 := bya_sz 1 dn; have z2 := bya_sz 1 an; have z3 := bya_sz 1 bn; have z4 := bya_sz 4 0
    obtain ⟨D0, hD0⟩ : ∃ D, D = bya (numB 1 3) := ⟨_, rfl⟩
    obtain ⟨D1, hD1⟩ : ∃ D, D = bya (numB 1 dn) := ⟨_, rfl⟩
    obtain ⟨D2, hD2⟩ : ∃ D, D = bya (numB 1 an) := ⟨_, rfl⟩
    obtain ⟨D3, hD3⟩ : ∃ D, D = bya (numB 1 bn) := ⟨_, rfl⟩
    obtain ⟨D4, hD4⟩ : ∃ D, D = bya (numB 4 0) := ⟨_, rfl⟩
    have HE2 : Hid (D0 ++ D1 ++ D2 ++ D3 ++ D4 = bya (putT ⟨3, dn, an, bn, 0⟩)) := by unfold Hid; rw [hD0, hD1, hD2, hD3, hD4]; exact HE
    rw [← hD0] at N0 z0
    rw [← hD1] at N1 z1
    rw [← hD2] at N2 z2
    rw [← hD3] at N3 z3
    rw [← hD4] at N4 z4
    clear hD0 hD1 hD2 hD3 hD4 HE
    intro w
    go_enter Tryd.func30, Tryd.ntmps30
    go_wp2_with fail
    refine (unhide PK _).mono ?_
    rintro e w' ⟨rfl, hw⟩
    obtain rfl := hw.symm
    clear PK
    go_wp2_with fail
    refine (unhide PD _).mono ?_
    rintro e w' ⟨rfl, hw⟩
    obtain rfl := hw.symm
    clear PD
    go_wp2_with fail
    refine (unhide PA _).mono ?_
    rintro e w' ⟨rfl, hw⟩
    obtain rfl := hw.symm
    clear PA
    go_wp2_with fail
    refine (unhide PB _).mono ?_
    rintro e w' ⟨rfl, hw⟩
    obtain rfl := hw.symm
    clear PB
    go_wp2_with fail
    refine (unhide N0 _).mono ?_
    rintro e w1 ⟨rfl, hb1⟩
    have HB1 : Hid (Below w.heap.size w w1) := ((Below.refl _ _).alloc (Nat.le_refl _) _).trans (hb1.mono (by rw [size_alloc1]; omega))
    have hz1 := hb1.size
    rw [size_alloc1] at hz1
    clear hb1 N0
    go_wp2_with fail
    refine (unhide N1 _).mono ?_
    rintro e w2 ⟨rfl, hb2⟩
    have HB2 : Hid (Below w.heap.size w w2) := HB1.out.trans (hb2.mono (by omega))
    have hz2 := hb2.size
    clear hb2 N1
    go_wp2_with fail
    refine (unhide N2 _).mono ?_
    rintro e w3 ⟨rfl, hb3⟩
    have HB3 : Hid (Below w.heap.size w w3) := HB2.out.trans (hb3.mono (by omega))
    have hz3 := hb3.size
    clear hb3 N2
    go_wp2_with fail
    refine (unhide N3 _).mono ?_
    rintro e w4 ⟨rfl, hb4⟩
    have HB4 : Hid (Below w.heap.size w w4) := HB3.out.trans (hb4.mono (by omega))
    have hz4 := hb4.size
    clear hb4 N3
    go_wp2_with fail
    refine (unhide N4 _).mono ?_
    rintro e w5 ⟨rfl, hb5⟩
    have HB5 : Hid (Below w.heap.size w w5) := HB4.out.trans (hb5.mono (by omega))
    clear hb5 N4
    go_wp2_with fail
    go_ret
    exact ⟨by rw [← HE2.out]; rfl, HB5.out⟩
  · refine ⟨⟨4, dn, an, bn, 0⟩, ⟨by show dn < 16; omega, by show an < 16; omega, by show bn < 16; omega, .inr (.inl ⟨by show 2 ≤ 4; decide, by show 4 ≤ 5; decide, rfl⟩)⟩, by show 0 < 4294967296; omega, ?_⟩
    have HE := putT_app 4 dn an bn 0 (by omega) (by omega) (by omega) (by omega)
    have N0 := hide (fun w' => keepNumber_any 4 1 w' (by decide) (by omega))
    have N1 := hide (fun w' => keepNumber_any dn 1 w' (by decide) (by omega))
    have N2 := hide (fun w' => keepNumber_any an 1 w' (by decide) (by omega))
    have N3 := hide (fun w' => keepNumber_any bn 1 w' (by decide) (by omega))
    have N4 := hide (fun w' => keepNumber_any 0 4 w' (by decide) (by omega))
    have z0 := bya_sz 1 4; have z1 := bya_sz 1 dn; have z2 := bya_sz 1 an; have z3 := bya_sz 1 bn; have z4 := bya_sz 4 0
    obtain ⟨D0, hD0⟩ : ∃ D, D = bya (numB 1 4) := ⟨_, rfl⟩
    obtain ⟨D1, hD1⟩ : ∃ D, D = bya (numB 1 dn) := ⟨_, rfl⟩
    obtain ⟨D2, hD2⟩ : ∃ D, D = bya (numB 1 an) := ⟨_, rfl⟩
    obtain ⟨D3, hD3⟩ : ∃ D, D = bya (numB 1 bn) := ⟨_, rfl⟩
    obtain ⟨D4, hD4⟩ : ∃ D, D = bya (numB 4 0) := ⟨_, rfl⟩
    have HE2 : Hid (D0 ++ D1 ++ D2 ++ D3 ++ D4 = bya (putT ⟨4, dn, an, bn, 0⟩)) := by unfold Hid; rw [hD0, hD1, hD2, hD3, hD4]; exact HE
    rw [← hD0] at N0 z0
    rw [← hD1] at N1 z1
    rw [← hD2] at N2 z2
    rw [← hD3] at N3 z3
    rw [← hD4] at N4 z4
    clear hD0 hD1 hD2 hD3 hD4 HE
    intro w
    go_enter Tryd.func30, Tryd.ntmps30
    go_wp2_with fail
    refine (unhide PK _).mono ?_
    rintro e w' ⟨rfl, hw⟩
    obtain rfl := hw.symm
    clear PK
    go_wp2_with fail
    refine (unhide PD _).mono ?_
    rintro e w' ⟨rfl, hw⟩
    obtain rfl := hw.symm
    clear PD
    go_wp2_with fail
    refine (unhide PA _).mono ?_
    rintro e w' ⟨rfl, hw⟩
    obtain rfl := hw.symm
    clear PA
    go_wp2_with fail
    refine (unhide PB _).mono ?_
    rintro e w' ⟨rfl, hw⟩
    obtain rfl := hw.symm
    clear PB
    go_wp2_with fail
    refine (unhide N0 _).mono ?_
    rintro e w1 ⟨rfl, hb1⟩
    have HB1 : Hid (Below w.heap.size w w1) := ((Below.refl _ _).alloc (Nat.le_refl _) _).trans (hb1.mono (by rw [size_alloc1]; omega))
    have hz1 := hb1.size
    rw [size_alloc1] at hz1
    clear hb1 N0
    go_wp2_with fail
    refine (unhide N1 _).mono ?_
    rintro e w2 ⟨rfl, hb2⟩
    have HB2 : Hid (Below w.heap.size w w2) := HB1.out.trans (hb2.mono (by omega))
    have hz2 := hb2.size
    clear hb2 N1
    go_wp2_with fail
    refine (unhide N2 _).mono ?_
    rintro e w3 ⟨rfl, hb3⟩
    have HB3 : Hid (Below w.heap.size w w3) := HB2.out.trans (hb3.mono (by omega))
    have hz3 := hb3.size
    clear hb3 N2
    go_wp2_with fail
    refine (unhide N3 _).mono ?_
    rintro e w4 ⟨rfl, hb4⟩
    have HB4 : Hid (Below w.heap.size w w4) := HB3.out.trans (hb4.mono (by omega))
    have hz4 := hb4.size
    clear hb4 N3
    go_wp2_with fail
    refine (unhide N4 _).mono ?_
    rintro e w5 ⟨rfl, hb5⟩
    have HB5 : Hid (Below w.heap.size w w5) := HB4.out.trans (hb5.mono (by omega))
    clear hb5 N4
    go_wp2_with fail
    go_ret
    exact ⟨by rw [← HE2.out]; rfl, HB5.out⟩
  · refine ⟨⟨5, dn, an, bn, 0⟩, ⟨by show dn < 16; omega, by show an < 16; omega, by show bn < 16; omega, .inr (.inl ⟨by show 2 ≤ 5; decide, by show 5 ≤ 5; decide, rfl⟩)⟩, by show 0 < 4294967296; omega, ?_⟩
    have HE := putT_app 5 dn an bn 0 (by omega) (by omega) (by omega) (by omega)
    have N0 := hide (fun w' => keepNumber_any 5 1 w' (by decide) (by omega))
    have N1 := hide (fun w' => keepNumber_any dn 1 w' (by decide) (by omega))
    have N2 := hide (fun w' => keepNumber_any an 1 w' (by decide) (by omega))
    have N3 := hide (fun w' => keepNumber_any bn 1 w' (by decide) (by omega))
    have N4 := hide (fun w' => keepNumber_any 0 4 w' (by decide) (by omega))
    have z0 := bya_sz 1 5; have z1 := bya_sz 1 dn; have z2 := bya_sz 1 an; have z3 := bya_sz 1 bn; have z4 := bya_sz 4 0
    obtain ⟨D0, hD0⟩ : ∃ D, D = bya (numB 1 5) := ⟨_, rfl⟩
    obtain ⟨D1, hD1⟩ : ∃ D, D = bya (numB 1 dn) := ⟨_, rfl⟩
    obtain ⟨D2, hD2⟩ : ∃ D, D = bya (numB 1 an) := ⟨_, rfl⟩
    obtain ⟨D3, hD3⟩ : ∃ D, D = bya (numB 1 bn) := ⟨_, rfl⟩
    obtain ⟨D4, hD4⟩ : ∃ D, D = bya (numB 4 0) := ⟨_, rfl⟩
    have HE2 : Hid (D0 ++ D1 ++ D2 ++ D3 ++ D4 = bya (putT ⟨5, dn, an, bn, 0⟩)) := by unfold Hid; rw [hD0, hD1, hD2, hD3, hD4]; exact HE
    rw [← hD0] at N0 z0
    rw [← hD1] at N1 z1
    rw [← hD2] at N2 z2
    rw [← hD3] at N3 z3
    rw [← hD4] at N4 z4
    clear hD0 hD1 hD2 hD3 hD4 HE
    intro w
    go_enter Tryd.func30, Tryd.ntmps30
    go_wp2_with fail
    refine (unhide PK _).mono ?_
    rintro e w' ⟨rfl, hw⟩
    obtain rfl := hw.symm
    clear PK
    go_wp2_with fail
    refine (unhide PD _).mono ?_
    rintro e w' ⟨rfl, hw⟩
    obtain rfl := hw.symm
    clear PD
    go_wp2_with fail
    refine (unhide PA _).mono ?_
    rintro e w' ⟨rfl, hw⟩
    obtain rfl := hw.symm
    clear PA
    go_wp2_with fail
    refine (unhide PB _).mono ?_
    rintro e w' ⟨rfl, hw⟩
    obtain rfl := hw.symm
    clear PB
    go_wp2_with fail
    refine (unhide N0 _).mono ?_
    rintro e w1 ⟨rfl, hb1⟩
    have HB1 : Hid (Below w.heap.size w w1) := ((Below.refl _ _).alloc (Nat.le_refl _) _).trans (hb1.mono (by rw [size_alloc1]; omega))
    have hz1 := hb1.size
    rw [size_alloc1] at hz1
    clear hb1 N0
    go_wp2_with fail
    refine (unhide N1 _).mono ?_
    rintro e w2 ⟨rfl, hb2⟩
    have HB2 : Hid (Below w.heap.size w w2) := HB1.out.trans (hb2.mono (by omega))
    have hz2 := hb2.size
    clear hb2 N1
    go_wp2_with fail
    refine (unhide N2 _).mono ?_
    rintro e w3 ⟨rfl, hb3⟩
    have HB3 : Hid (Below w.heap.size w w3) := HB2.out.trans (hb3.mono (by omega))
    have hz3 := hb3.size
    clear hb3 N2
    go_wp2_with fail
    refine (unhide N3 _).mono ?_
    rintro e w4 ⟨rfl, hb4⟩
    have HB4 : Hid (Below w.heap.size w w4) := HB3.out.trans (hb4.mono (by omega))
    have hz4 := hb4.size
    clear hb4 N3
    go_wp2_with fail
    refine (unhide N4 _).mono ?_
    rintro e w5 ⟨rfl, hb5⟩
    have HB5 : Hid (Below w.heap.size w w5) := HB4.out.trans (hb5.mono (by omega))
    clear hb5 N4
    go_wp2_with fail
    go_ret
    exact ⟨by rw [← HE2.out]; rfl, HB5.out⟩
  · refine ⟨⟨6, dn, an, 0, c6⟩, ⟨by show dn < 16; omega, by show an < 16; omega, by show 0 < 16; omega, .inr (.inr (.inl ⟨rfl, rfl, by show c6 ≤ 4095; omega⟩))⟩, by show c6 < 4294967296; omega, ?_⟩
    have HE := putT_app 6 dn an 0 c6 (by omega) (by omega) (by omega) (by omega)
    have N0 := hide (fun w' => keepNumber_any 6 1 w' (by decide) (by omega))
    have N1 := hide (fun w' => keepNumber_any dn 1 w' (by decide) (by omega))
    have N2 := hide (fun w' => keepNumber_any an 1 w' (by decide) (by omega))
    have N3 := hide (fun w' => keepNumber_any 0 1 w' (by decide) (by omega))
    have N4 := hide (fun w' => keepNumber_any c6 4 w' (by decide) (by omega))
    have z0 := bya_sz 1 6; have z1 := bya_sz 1 dn; have z2 := bya_sz 1 an; have z3 := bya_sz 1 0; have z4 := bya_sz 4 c6
    obtain ⟨D0, hD0⟩ : ∃ D, D = bya (numB 1 6) := ⟨_, rfl⟩
    obtain ⟨D1, hD1⟩ : ∃ D, D = bya (numB 1 dn) := ⟨_, rfl⟩
    obtain ⟨D2, hD2⟩ : ∃ D, D = bya (numB 1 an) := ⟨_, rfl⟩
    obtain ⟨D3, hD3⟩ : ∃ D, D = bya (numB 1 0) := ⟨_, rfl⟩
    obtain ⟨D4, hD4⟩ : ∃ D, D = bya (numB 4 c6) := ⟨_, rfl⟩
    have HE2 : Hid (D0 ++ D1 ++ D2 ++ D3 ++ D4 = bya (putT ⟨6, dn, an, 0, c6⟩)) := by unfold Hid; rw [hD0, hD1, hD2, hD3, hD4]; exact HE
    rw [← hD0] at N0 z0
    rw [← hD1] at N1 z1
    rw [← hD2] at N2 z2
    rw [← hD3] at N3 z3
    rw [← hD4] at N4 z4
    clear hD0 hD1 hD2 hD3 hD4 HE
    intro w
    go_enter Tryd.func30, Tryd.ntmps30
    go_wp2_with fail
    refine (unhide PK _).mono ?_
    rintro e w' ⟨rfl, hw⟩
    obtain rfl := hw.symm
    clear PK
    go_wp2_with fail
    refine (unhide PD _).mono ?_
    rintro e w' ⟨rfl, hw⟩
    obtain rfl := hw.symm
    clear PD
    go_wp2_with fail
    refine (unhide PA _).mono ?_
    rintro e w' ⟨rfl, hw⟩
    obtain rfl := hw.symm
    clear PA
    go_wp2_with fail
    refine (unhide PB _).mono ?_
    rintro e w' ⟨rfl, hw⟩
    obtain rfl := hw.symm
    clear PB
    go_wp2_with fail
    refine (unhide P6 _).mono ?_
    rintro e w' ⟨rfl, hw⟩
    obtain rfl := hw.symm
    clear P6
    go_wp2_with fail
    refine (unhide N0 _).mono ?_
    rintro e w1 ⟨rfl, hb1⟩
    have HB1 : Hid (Below w.heap.size w w1) := ((Below.refl _ _).alloc (Nat.le_refl _) _).trans (hb1.mono (by rw [size_alloc1]; omega))
    have hz1 := hb1.size
    rw [size_alloc1] at hz1
    clear hb1 N0
    go_wp2_with fail
    refine (unhide N1 _).mono ?_
    rintro e w2 ⟨rfl, hb2⟩
    have HB2 : Hid (Below w.heap.size w w2) := HB1.out.trans (hb2.mono (by omega))
    have hz2 := hb2.size
    clear hb2 N1
    go_wp2_with fail
    refine (unhide N2 _).mono ?_
    rintro e w3 ⟨rfl, hb3⟩
    have HB3 : Hid (Below w.heap.size w w3) := HB2.out.trans (hb3.mono (by omega))
    have hz3 := hb3.size
    clear hb3 N2
    go_wp2_with fail
    refine (unhide N3 _).mono ?_
    rintro e w4 ⟨rfl, hb4⟩
    have HB4 : Hid (Below w.heap.size w w4) := HB3.out.trans (hb4.mono (by omega))
    have hz4 := hb4.size
    clear hb4 N3
    go_wp2_with fail
    refine (unhide N4 _).mono ?_
    rintro e w5 ⟨rfl, hb5⟩
    have HB5 : Hid (Below w.heap.size w w5) := HB4.out.trans (hb5.mono (by omega))
    clear hb5 N4
    go_wp2_with fail
    go_ret
    exact ⟨by rw [← HE2.out]; rfl, HB5.out⟩
  · refine ⟨⟨7, dn, an, 0, 0⟩, ⟨by show dn < 16; omega, by show an < 16; omega, by show 0 < 16; omega, .inr (.inr (.inr ⟨rfl, rfl, rfl⟩))⟩, by show 0 < 4294967296; omega, ?_⟩
    have HE := putT_app 7 dn an 0 0 (by omega) (by omega) (by omega) (by omega)
    have N0 := hide (fun w' => keepNumber_any 7 1 w' (by decide) (by omega))
    have N1 := hide (fun w' => keepNumber_any dn 1 w' (by decide) (by omega))
    have N2 := hide (fun w' => keepNumber_any an 1 w' (by decide) (by omega))
    have N3 := hide (fun w' => keepNumber_any 0 1 w' (by decide) (by omega))
    have N4 := hide (fun w' => keepNumber_any 0 4 w' (by decide) (by omega))
    have z0 := bya_sz 1 7; have z1 := bya_sz 1 dn; have z2 := bya_sz 1 an; have z3 := bya_sz 1 0; have z4 := bya_sz 4 0
    obtain ⟨D0, hD0⟩ : ∃ D, D = bya (numB 1 7) := ⟨_, rfl⟩
    obtain ⟨D1, hD1⟩ : ∃ D, D = bya (numB 1 dn) := ⟨_, rfl⟩
    obtain ⟨D2, hD2⟩ : ∃ D, D = bya (numB 1 an) := ⟨_, rfl⟩
    obtain ⟨D3, hD3⟩ : ∃ D, D = bya (numB 1 0) := ⟨_, rfl⟩
    obtain ⟨D4, hD4⟩ : ∃ D, D = bya (numB 4 0) := ⟨_, rfl⟩
    have HE2 : Hid (D0 ++ D1 ++ D2 ++ D3 ++ D4 = bya (putT ⟨7, dn, an, 0, 0⟩)) := by unfold Hid; rw [hD0, hD1, hD2, hD3, hD4]; exact HE
    rw [← hD0] at N0 z0
    rw [← hD1] at N1 z1
    rw [← hD2] at N2 z2
    rw [← hD3] at N3 z3
    rw [← hD4] at N4 z4
    clear hD0 hD1 hD2 hD3 hD4 HE
    intro w
    go_enter Tryd.func30, Tryd.ntmps30
    go_wp2_with fail
    refine (unhide PK _).mono ?_
    rintro e w' ⟨rfl, hw⟩
    obtain rfl := hw.symm
    clear PK
    go_wp2_with fail
    refine (unhide PD _).mono ?_
    rintro e w' ⟨rfl, hw⟩
    obtain rfl := hw.symm
    clear PD
    go_wp2_with fail
    refine (unhide PA _).mono ?_
    rintro e w' ⟨rfl, hw⟩
    obtain rfl := hw.symm
    clear PA
    go_wp2_with fail
    refine (unhide PB _).mono ?_
    rintro e w' ⟨rfl, hw⟩
    obtain rfl := hw.symm
    clear PB
    go_wp2_with fail
    refine (unhide N0 _).mono ?_
    rintro e w1 ⟨rfl, hb1⟩
    have HB1 : Hid (Below w.heap.size w w1) := ((Below.refl _ _).alloc (Nat.le_refl _) _).trans (hb1.mono (by rw [size_alloc1]; omega))
    have hz1 := hb1.size
    rw [size_alloc1] at hz1
    clear hb1 N0
    go_wp2_with fail
    refine (unhide N1 _).mono ?_
    rintro e w2 ⟨rfl, hb2⟩
    have HB2 : Hid (Below w.heap.size w w2) := HB1.out.trans (hb2.mono (by omega))
    have hz2 := hb2.size
    clear hb2 N1
    go_wp2_with fail
    refine (unhide N2 _).mono ?_
    rintro e w3 ⟨rfl, hb3⟩
    have HB3 : Hid (Below w.heap.size w w3) := HB2.out.trans (hb3.mono (by omega))
    have hz3 := hb3.size
    clear hb3 N2
    go_wp2_with fail
    refine (unhide N3 _).mono ?_
    rintro e w4 ⟨rfl, hb4⟩
    have HB4 : Hid (Below w.heap.size w w4) := HB3.out.trans (hb4.mono (by omega))
    have hz4 := hb4.size
    clear hb4 N3
    go_wp2_with fail
    refine (unhide N4 _).mono ?_
    rintro e w5 ⟨rfl, hb5⟩
    have HB5 : Hid (Below w.heap.size w w5) := HB4.out.trans (hb5.mono (by omega))
    clear hb5 N4
    go_wp2_with fail
    go_ret
    exact ⟨by rw [← HE2.out]; rfl, HB5.out⟩
end Go.Proofs.YtmmflekajbeamaaDoor
