/-
  Turned: a put out of any numbers (put).
  Translates: slices.Backward over puts: what its value hands out.
-/
import Derived.Test.YtmmflekajbeamaaDoorR28
import Derived.Test.YtmmflekajbeamaaDoorR16
import Derived.RangeFuncNested
import Derived.RangeFuncBound
import Derived.RangeFuncCalls
import Derived.RangeFuncLeaves
import Derived.Shelf.Abstract
import Derived.Shelf.RegionOpen
import Derived.WalkKit
import Derived.OwnWalkIn
import Derived.TacticsInMore
import Derived.LoopNIn
import Derived.LoopIn
namespace Go.Proofs.YtmmflekajbeamaaDoor
open Go.RowKit

theorem pick_nat (c n : Int) (hn : 0 < n) : ∃ m : Nat, pickI c n = (m : Int) ∧ (m : Int) < n := by
  have h := pickI_bd c n hn
  obtain ⟨m, hm⟩ := Int.eq_ofNat_of_zero_le h.1
  exact ⟨m, hm, by omega⟩
theorem putT_app (K D A B C : Nat) (h0 : K < 256) (h1 : D < 256) (h2 : A < 256) (h3 : B < 256) : (((bya (numB 1 K) ++ bya (numB 1 D)) ++ bya (numB 1 A)) ++ bya (numB 1 B)) ++ bya (numB 4 C) = bya (putT ⟨K, D, A, B, C⟩) := by
  have e : ∀ v, v < 256 → numB 1 v = [UInt8.ofNat v] := fun v h => by
    simp only [numB, Nat.pow_zero, Nat.div_one]
    rw [Nat.mod_eq_of_lt h]
  rw [e K h0, e D h1, e A h2, e B h3]
  simp only [bya_app]
  simp [putT]
theorem bya_sz (k v : Nat) : (bya (numB k v)).size = k := by rw [bya_size, numB_len]

set_option maxRecDepth 100000 in
set_option maxHeartbeats 4000000 in
theorem put_any (k d a b c : Int) (hk : -9223372036854775808 ≤ k ∧ k ≤ 9223372036854775807) (hd : -9223372036854775808 ≤ d ∧ d ≤ 9223372036854775807) (ha : -9223372036854775808 ≤ a ∧ a ≤ 9223372036854775807) (hb : -9223372036854775808 ≤ b ∧ b ≤ 9223372036854775807) (hc : -9223372036854775808 ≤ c ∧ c ≤ 9223372036854775807) :
    ∃ q : PutN, okPut q ∧ q.k < 4294967296 ∧ ∀ w, Calls Tryd.prog 30 #[.agg #[.int .i64 k, .int .i64 d, .int .i64 a, .int .i64 b, .int .i64 c]] w fun e' w' => e' = .returned (.string (bya (putT q))) ∧ Below w.heap.size w w' := by
  obtain ⟨kn, ek, lk⟩ := pick_nat k 7 (by decide)
  obtain ⟨dn, ed, ld⟩ := pick_nat d 16 (by decide)
  obtain ⟨an, ea, la⟩ := pick_nat a 16 (by decide)
  obtain ⟨bn, eb, lb⟩ := pick_nat b 16 (by decide)
  obtain ⟨c1, e1, l1⟩ := pick_nat c 4294967296 (by decide)
  obtain ⟨c6, e6, l6⟩ := pick_nat c 4096 (by decide)
  have PK := hide (fun w' => pick_any k 7 w' hk.1 hk.2 (by decide) (by decide))
  have PD := hide (fun w' => pick_any d 16 w' hd.1 hd.2 (by decide) (by decide))
  have PA := hide (fun w' => pick_any a 16 w' ha.1 ha.2 (by decide) (by decide))
  have PB := hide (fun w' => pick_any b 16 w' hb.1 hb.2 (by decide) (by decide))
  have P1 := hide (fun w' => pick_any c 4294967296 w' hc.1 hc.2 (by decide) (by decide))
  have P6 := hide (fun w' => pick_any c 4096 w' hc.1 hc.2 (by decide) (by decide))
  rw [ek] at PK
  rw [ed] at PD
  rw [ea] at PA
  rw [eb] at PB
  rw [e1] at P1
  rw [e6] at P6
  clear ek ed ea eb e1 e6 hk hd ha hb hc
  have hkn : kn = 0 ∨ kn = 1 ∨ kn = 2 ∨ kn = 3 ∨ kn = 4 ∨ kn = 5 ∨ kn = 6 := by omega
  clear lk
  rcases hkn with rfl | rfl | rfl | rfl | rfl | rfl | rfl
  · refine ⟨⟨1, dn, 0, 0, c1⟩, ⟨by show dn < 16; omega, by show 0 < 16; omega, by show 0 < 16; omega, .inl ⟨rfl, rfl, rfl⟩⟩, by show c1 < 4294967296; omega, ?_⟩
    have HE := putT_app 1 dn 0 0 c1 (by omega) (by omega) (by omega) (by omega)
    have N0 := hide (fun w' => keepNumber_any 1 1 w' (by decide) (by omega))
    have N1 := hide (fun w' => keepNumber_any dn 1 w' (by decide) (by omega))
    have N2 := hide (fun w' => keepNumber_any 0 1 w' (by decide) (by omega))
    have N3 := hide (fun w' => keepNumber_any 0 1 w' (by decide) (by omega))
    have N4 := hide (fun w' => keepNumber_any c1 4 w' (by decide) (by omega))
    have z0 := bya_sz 1 1; have z1 := bya_sz 1 dn; have z2 := bya_sz 1 0; have z3 := bya_sz 1 0; have z4 := bya_sz 4 c1
    obtain ⟨D0, hD0⟩ : ∃ D, D = bya (numB 1 1) := ⟨_, rfl⟩
    obtain ⟨D1, hD1⟩ : ∃ D, D = bya (numB 1 dn) := ⟨_, rfl⟩
    obtain ⟨D2, hD2⟩ : ∃ D, D = bya (numB 1 0) := ⟨_, rfl⟩
    obtain ⟨D3, hD3⟩ : ∃ D, D = bya (numB 1 0) := ⟨_, rfl⟩
    obtain ⟨D4, hD4⟩ : ∃ D, D = bya (numB 4 c1) := ⟨_, rfl⟩
    have HE2 : Hid (D0 ++ D1 ++ D2 ++ D3 ++ D4 = bya (putT ⟨1, dn, 0, 0, c1⟩)) := by unfold Hid; rw [hD0, hD1, hD2, hD3, hD4]; exact HE
    rw [← hD0] at N0 z0
    rw [← hD1] at N1 z1
    rw [← hD2] at N2 z2
    rw [← hD3] at N3 z3
    rw [← hD4] at N4 z4
    clear hD0 hD1 hD2 hD3 hD4 HE
    intro w
    go_enter Tryd.func30, Tryd.ntmps30
    go_wp2_with fail
    refine (unhide PK _).mono ?_
    rintro e w' ⟨rfl, hw⟩
    obtain rfl := hw.symm
    clear PK
    go_wp2_with fail
    refine (unhide PD _).mono ?_
    rintro e w' ⟨rfl, hw⟩
    obtain rfl := hw.symm
    clear PD
    go_wp2_with fail
    refine (unhide PA _).mono ?_
    rintro e w' ⟨rfl, hw⟩
    obtain rfl := hw.symm
    clear PA
    go_wp2_with fail
    refine (unhide PB _).mono ?_
    rintro e w' ⟨rfl, hw⟩
    obtain rfl := hw.symm
    clear PB
    go_wp2_with fail
    refine (unhide P1 _).mono ?_
    rintro e w' ⟨rfl, hw⟩
    obtain rfl := hw.symm
    clear P1
    go_wp2_with fail
    refine (unhide N0 _).mono ?_
    rintro e w1 ⟨rfl, hb1⟩
    have HB1 : Hid (Below w.heap.size w w1) := ((Below.refl _ _).alloc (Nat.le_refl _) _).trans (hb1.mono (by rw [size_alloc1]; omega))
    have hz1 := hb1.size
    rw [size_alloc1] at hz1
    clear hb1 N0
    go_wp2_with fail
    refine (unhide N1 _).mono ?_
    rintro e w2 ⟨rfl, hb2⟩
    have HB2 : Hid (Below w.heap.size w w2) := HB1.out.trans (hb2.mono (by omega))
    have hz2 := hb2.size
    clear hb2 N1
    go_wp2_with fail
    refine (unhide N2 _).mono ?_
    rintro e w3 ⟨rfl, hb3⟩
    have HB3 : Hid (Below w.heap.size w w3) := HB2.out.trans (hb3.mono (by omega))
    have hz3 := hb3.size
    clear hb3 N2
    go_wp2_with fail
    refine (unhide N3 _).mono ?_
    rintro e w4 ⟨rfl, hb4⟩
    have HB4 : Hid (Below w.heap.size w w4) := HB3.out.trans (hb4.mono (by omega))
    have hz4 := hb4.size
    clear hb4 N3
    go_wp2_with fail
    refine (unhide N4 _).mono ?_
    rintro e w5 ⟨rfl, hb5⟩
    have HB5 : Hid (Below w.heap.size w w5) := HB4.out.trans (hb5.mono (by omega))
    clear hb5 N4
    go_wp2_with fail
    go_ret
    exact ⟨by rw [← HE2.out]; rfl, HB5.out⟩
  · refine ⟨⟨2, dn, an, bn, 0⟩, ⟨by show dn < 16; omega, by show an < 16; omega, by show bn < 16; omega, .inr (.inl ⟨by show 2 ≤ 2; decide, by show 2 ≤ 5; decide, rfl⟩)⟩, by show 0 < 4294967296; omega, ?_⟩
    have HE := putT_app 2 dn an bn 0 (by omega) (by omega) (by omega) (by omega)
    have N0 := hide (fun w' => keepNumber_any 2 1 w' (by decide) (by omega))
    have N1 := hide (fun w' => keepNumber_any dn 1 w' (by decide) (by omega))
    have N2 := hide (fun w' => keepNumber_any an 1 w' (by decide) (by omega))
    have N3 := hide (fun w' => keepNumber_any bn 1 w' (by decide) (by omega))
    have N4 := hide (fun w' => keepNumber_any 0 4 w' (by decide) (by omega))
    have z0 := bya_sz 1 2; have z1 := bya_sz 1 dn; have z2 := bya_sz 1 an; have z3 := bya_sz 1 bn; have z4 := bya_sz 4 0
    obtain ⟨D0, hD0⟩ : ∃ D, D = bya (numB 1 2) := ⟨_, rfl⟩
    obtain ⟨D1, hD1⟩ : ∃ D, D = bya (numB 1 dn) := ⟨_, rfl⟩
    obtain ⟨D2, hD2⟩ : ∃ D, D = bya (numB 1 an) := ⟨_, rfl⟩
    obtain ⟨D3, hD3⟩ : ∃ D, D = bya (numB 1 bn) := ⟨_, rfl⟩
    obtain ⟨D4, hD4⟩ : ∃ D, D = bya (numB 4 0) := ⟨_, rfl⟩
    have HE2 : Hid (D0 ++ D1 ++ D2 ++ D3 ++ D4 = bya (putT ⟨2, dn, an, bn, 0⟩)) := by unfold Hid; rw [hD0, hD1, hD2, hD3, hD4]; exact HE
    rw [← hD0] at N0 z0
    rw [← hD1] at N1 z1
    rw [← hD2] at N2 z2
    rw [← hD3] at N3 z3
    rw [← hD4] at N4 z4
    clear hD0 hD1 hD2 hD3 hD4 HE
    intro w
    go_enter Tryd.func30, Tryd.ntmps30
    go_wp2_with fail
    refine (unhide PK _).mono ?_
    rintro e w' ⟨rfl, hw⟩
    obtain rfl := hw.symm
    clear PK
    go_wp2_with fail
    refine (unhide PD _).mono ?_
    rintro e w' ⟨rfl, hw⟩
    obtain rfl := hw.symm
    clear PD
    go_wp2_with fail
    refine (unhide PA _).mono ?_
    rintro e w' ⟨rfl, hw⟩
    obtain rfl := hw.symm
    clear PA
    go_wp2_with fail
    refine (unhide PB _).mono ?_
    rintro e w' ⟨rfl, hw⟩
    obtain rfl := hw.symm
    clear PB
    go_wp2_with fail
    refine (unhide N0 _).mono ?_
    rintro e w1 ⟨rfl, hb1⟩
    have HB1 : Hid (Below w.heap.size w w1) := ((Below.refl _ _).alloc (Nat.le_refl _) _).trans (hb1.mono (by rw [size_alloc1]; omega))
    have hz1 := hb1.size
    rw [size_alloc1] at hz1
    clear hb1 N0
    go_wp2_with fail
    refine (unhide N1 _).mono ?_
    rintro e w2 ⟨rfl, hb2⟩
    have HB2 : Hid (Below w.heap.size w w2) := HB1.out.trans (hb2.mono (by omega))
    have hz2 := hb2.size
    clear hb2 N1
    go_wp2_with fail
    refine (unhide N2 _).mono ?_
    rintro e w3 ⟨rfl, hb3⟩
    have HB3 : Hid (Below w.heap.size w w3) := HB2.out.trans (hb3.mono (by omega))
    have hz3 := hb3.size
    clear hb3 N2
    go_wp2_with fail
    refine (unhide N3 _).mono ?_
    rintro e w4 ⟨rfl, hb4⟩
    have HB4 : Hid (Below w.heap.size w w4) := HB3.out.trans (hb4.mono (by omega))
    have hz4 := hb4.size
    clear hb4 N3
    go_wp2_with fail
    refine (unhide N4 _).mono ?_
    rintro e w5 ⟨rfl, hb5⟩
    have HB5 : Hid (Below w.heap.size w w5) := HB4.out.trans (hb5.mono (by omega))
    clear hb5 N4
    go_wp2_with fail
    go_ret
    exact ⟨by rw [← HE2.out]; rfl, HB5.out⟩
  · refine ⟨⟨3, dn, an, bn, 0⟩, ⟨by show dn < 16; omega, by show an < 16; omega, by show bn < 16; omega, .inr (.inl ⟨by show 2 ≤ 3; decide, by show 3 ≤ 5; decide, rfl⟩)⟩, by show 0 < 4294967296; omega, ?_⟩
    have HE := putT_app 3 dn an bn 0 (by omega) (by omega) (by omega) (by omega)
    have N0 := hide (fun w' => keepNumber_any 3 1 w' (by decide) (by omega))
    have N1 := hide (fun w' => keepNumber_any dn 1 w' (by decide) (by omega))
    have N2 := hide (fun w' => keepNumber_any an 1 w' (by decide) (by omega))
    have N3 := hide (fun w' => keepNumber_any bn 1 w' (by decide) (by omega))
    have N4 := hide (fun w' => keepNumber_any 0 4 w' (by decide) (by omega))
    have z0 := bya_sz 1 3; have z1 := bya_sz 1 dn; have z2 := bya_sz 1 an; have z3 := bya_sz 1 bn; have z4 := bya_sz 4 0
    obtain ⟨D0, hD0⟩ : ∃ D, D = bya (numB 1 3) := ⟨_, rfl⟩
    obtain ⟨D1, hD1⟩ : ∃ D, D = bya (numB 1 dn) := ⟨_, rfl⟩
    obtain ⟨D2, hD2⟩ : ∃ D, D = bya (numB 1 an) := ⟨_, rfl⟩
    obtain ⟨D3, hD3⟩ : ∃ D, D = bya (numB 1 bn) := ⟨_, rfl⟩
    obtain ⟨D4, hD4⟩ : ∃ D, D = bya (numB 4 0) := ⟨_, rfl⟩
    have HE2 : Hid (D0 ++ D1 ++ D2 ++ D3 ++ D4 = bya (putT ⟨3, dn, an, bn, 0⟩)) := by unfold Hid; rw [hD0, hD1, hD2, hD3, hD4]; exact HE
    rw [← hD0] at N0 z0
    rw [← hD1] at N1 z1
    rw [← hD2] at N2 z2
    rw [← hD3] at N3 z3
    rw [← hD4] at N4 z4
    clear hD0 hD1 hD2 hD3 hD4 HE
    intro w
    go_enter Tryd.func30, Tryd.ntmps30
    go_wp2_with fail
    refine (unhide PK _).mono ?_
    rintro e w' ⟨rfl, hw⟩
    obtain rfl := hw.symm
    clear PK
    go_wp2_with fail
    refine (unhide PD _).mono ?_
    rintro e w' ⟨rfl, hw⟩
    obtain rfl := hw.symm
    clear PD
    go_wp2_with fail
    refine (unhide PA _).mono ?_
    rintro e w' ⟨rfl, hw⟩
    obtain rfl := hw.symm
    clear PA
    go_wp2_with fail
    refine (unhide PB _).mono ?_
    rintro e w' ⟨rfl, hw⟩
    obtain rfl := hw.symm
    clear PB
    go_wp2_with fail
    refine (unhide N0 _).mono ?_
    rintro e w1 ⟨rfl, hb1⟩
    have HB1 : Hid (Below w.heap.size w w1) := ((Below.refl _ _).alloc (Nat.le_refl _) _).trans (hb1.mono (by rw [size_alloc1]; omega))
    have hz1 := hb1.size
    rw [size_alloc1] at hz1
    clear hb1 N0
    go_wp2_with fail
    refine (unhide N1 _).mono ?_
    rintro e w2 ⟨rfl, hb2⟩
    have HB2 : Hid (Below w.heap.size w w2) := HB1.out.trans (hb2.mono (by omega))
    have hz2 := hb2.size
    clear hb2 N1
    go_wp2_with fail
    refine (unhide N2 _).mono ?_
    rintro e w3 ⟨rfl, hb3⟩
    have HB3 : Hid (Below w.heap.size w w3) := HB2.out.trans (hb3.mono (by omega))
    have hz3 := hb3.size
    clear hb3 N2
    go_wp2_with fail
    refine (unhide N3 _).mono ?_
    rintro e w4 ⟨rfl, hb4⟩
    have HB4 : Hid (Below w.heap.size w w4) := HB3.out.trans (hb4.mono (by omega))
    have hz4 := hb4.size
    clear hb4 N3
    go_wp2_with fail
    refine (unhide N4 _).mono ?_
    rintro e w5 ⟨rfl, hb5⟩
    have HB5 : Hid (Below w.heap.size w w5) := HB4.out.trans (hb5.mono (by omega))
    clear hb5 N4
    go_wp2_with fail
    go_ret
    exact ⟨by rw [← HE2.out]; rfl, HB5.out⟩
  · refine ⟨⟨4, dn, an, bn, 0⟩, ⟨by show dn < 16; omega, by show an < 16; omega, by show bn < 16; omega, .inr (.inl ⟨by show 2 ≤ 4; decide, by show 4 ≤ 5; decide, rfl⟩)⟩, by show 0 < 4294967296; omega, ?_⟩
    have HE := putT_app 4 dn an bn 0 (by omega) (by omega) (by omega) (by omega)
    have N0 := hide (fun w' => keepNumber_any 4 1 w' (by decide) (by omega))
    have N1 := hide (fun w' => keepNumber_any dn 1 w' (by decide) (by omega))
    have N2 := hide (fun w' => keepNumber_any an 1 w' (by decide) (by omega))
    have N3 := hide (fun w' => keepNumber_any bn 1 w' (by decide) (by omega))
    have N4 := hide (fun w' => keepNumber_any 0 4 w' (by decide) (by omega))
    have z0 := bya_sz 1 4; have z1 := bya_sz 1 dn; have z2 := bya_sz 1 an; have z3 := bya_sz 1 bn; have z4 := bya_sz 4 0
    obtain ⟨D0, hD0⟩ : ∃ D, D = bya (numB 1 4) := ⟨_, rfl⟩
    obtain ⟨D1, hD1⟩ : ∃ D, D = bya (numB 1 dn) := ⟨_, rfl⟩
    obtain ⟨D2, hD2⟩ : ∃ D, D = bya (numB 1 an) := ⟨_, rfl⟩
    obtain ⟨D3, hD3⟩ : ∃ D, D = bya (numB 1 bn) := ⟨_, rfl⟩
    obtain ⟨D4, hD4⟩ : ∃ D, D = bya (numB 4 0) := ⟨_, rfl⟩
    have HE2 : Hid (D0 ++ D1 ++ D2 ++ D3 ++ D4 = bya (putT ⟨4, dn, an, bn, 0⟩)) := by unfold Hid; rw [hD0, hD1, hD2, hD3, hD4]; exact HE
    rw [← hD0] at N0 z0
    rw [← hD1] at N1 z1
    rw [← hD2] at N2 z2
    rw [← hD3] at N3 z3
    rw [← hD4] at N4 z4
    clear hD0 hD1 hD2 hD3 hD4 HE
    intro w
    go_enter Tryd.func30, Tryd.ntmps30
    go_wp2_with fail
    refine (unhide PK _).mono ?_
    rintro e w' ⟨rfl, hw⟩
    obtain rfl := hw.symm
    clear PK
    go_wp2_with fail
    refine (unhide PD _).mono ?_
    rintro e w' ⟨rfl, hw⟩
    obtain rfl := hw.symm
    clear PD
    go_wp2_with fail
    refine (unhide PA _).mono ?_
    rintro e w' ⟨rfl, hw⟩
    obtain rfl := hw.symm
    clear PA
    go_wp2_with fail
    refine (unhide PB _).mono ?_
    rintro e w' ⟨rfl, hw⟩
    obtain rfl := hw.symm
    clear PB
    go_wp2_with fail
    refine (unhide N0 _).mono ?_
    rintro e w1 ⟨rfl, hb1⟩
    have HB1 : Hid (Below w.heap.size w w1) := ((Below.refl _ _).alloc (Nat.le_refl _) _).trans (hb1.mono (by rw [size_alloc1]; omega))
    have hz1 := hb1.size
    rw [size_alloc1] at hz1
    clear hb1 N0
    go_wp2_with fail
    refine (unhide N1 _).mono ?_
    rintro e w2 ⟨rfl, hb2⟩
    have HB2 : Hid (Below w.heap.size w w2) := HB1.out.trans (hb2.mono (by omega))
    have hz2 := hb2.size
    clear hb2 N1
    go_wp2_with fail
    refine (unhide N2 _).mono ?_
    rintro e w3 ⟨rfl, hb3⟩
    have HB3 : Hid (Below w.heap.size w w3) := HB2.out.trans (hb3.mono (by omega))
    have hz3 := hb3.size
    clear hb3 N2
    go_wp2_with fail
    refine (unhide N3 _).mono ?_
    rintro e w4 ⟨rfl, hb4⟩
    have HB4 : Hid (Below w.heap.size w w4) := HB3.out.trans (hb4.mono (by omega))
    have hz4 := hb4.size
    clear hb4 N3
    go_wp2_with fail
    refine (unhide N4 _).mono ?_
    rintro e w5 ⟨rfl, hb5⟩
    have HB5 : Hid (Below w.heap.size w w5) := HB4.out.trans (hb5.mono (by omega))
    clear hb5 N4
    go_wp2_with fail
    go_ret
    exact ⟨by rw [← HE2.out]; rfl, HB5.out⟩
  · refine ⟨⟨5, dn, an, bn, 0⟩, ⟨by show dn < 16; omega, by show an < 16; omega, by show bn < 16; omega, .inr (.inl ⟨by show 2 ≤ 5; decide, by show 5 ≤ 5; decide, rfl⟩)⟩, by show 0 < 4294967296; omega, ?_⟩
    have HE := putT_app 5 dn an bn 0 (by omega) (by omega) (by omega) (by omega)
    have N0 := hide (fun w' => keepNumber_any 5 1 w' (by decide) (by omega))
    have N1 := hide (fun w' => keepNumber_any dn 1 w' (by decide) (by omega))
    have N2 := hide (fun w' => keepNumber_any an 1 w' (by decide) (by omega))
    have N3 := hide (fun w' => keepNumber_any bn 1 w' (by decide) (by omega))
    have N4 := hide (fun w' => keepNumber_any 0 4 w' (by decide) (by omega))
    have z0 := bya_sz 1 5; have z1 := bya_sz 1 dn; have z2 := bya_sz 1 an; have z3 := bya_sz 1 bn; have z4 := bya_sz 4 0
    obtain ⟨D0, hD0⟩ : ∃ D, D = bya (numB 1 5) := ⟨_, rfl⟩
    obtain ⟨D1, hD1⟩ : ∃ D, D = bya (numB 1 dn) := ⟨_, rfl⟩
    obtain ⟨D2, hD2⟩ : ∃ D, D = bya (numB 1 an) := ⟨_, rfl⟩
    obtain ⟨D3, hD3⟩ : ∃ D, D = bya (numB 1 bn) := ⟨_, rfl⟩
    obtain ⟨D4, hD4⟩ : ∃ D, D = bya (numB 4 0) := ⟨_, rfl⟩
    have HE2 : Hid (D0 ++ D1 ++ D2 ++ D3 ++ D4 = bya (putT ⟨5, dn, an, bn, 0⟩)) := by unfold Hid; rw [hD0, hD1, hD2, hD3, hD4]; exact HE
    rw [← hD0] at N0 z0
    rw [← hD1] at N1 z1
    rw [← hD2] at N2 z2
    rw [← hD3] at N3 z3
    rw [← hD4] at N4 z4
    clear hD0 hD1 hD2 hD3 hD4 HE
    intro w
    go_enter Tryd.func30, Tryd.ntmps30
    go_wp2_with fail
    refine (unhide PK _).mono ?_
    rintro e w' ⟨rfl, hw⟩
    obtain rfl := hw.symm
    clear PK
    go_wp2_with fail
    refine (unhide PD _).mono ?_
    rintro e w' ⟨rfl, hw⟩
    obtain rfl := hw.symm
    clear PD
    go_wp2_with fail
    refine (unhide PA _).mono ?_
    rintro e w' ⟨rfl, hw⟩
    obtain rfl := hw.symm
    clear PA
    go_wp2_with fail
    refine (unhide PB _).mono ?_
    rintro e w' ⟨rfl, hw⟩
    obtain rfl := hw.symm
    clear PB
    go_wp2_with fail
    refine (unhide N0 _).mono ?_
    rintro e w1 ⟨rfl, hb1⟩
    have HB1 : Hid (Below w.heap.size w w1) := ((Below.refl _ _).alloc (Nat.le_refl _) _).trans (hb1.mono (by rw [size_alloc1]; omega))
    have hz1 := hb1.size
    rw [size_alloc1] at hz1
    clear hb1 N0
    go_wp2_with fail
    refine (unhide N1 _).mono ?_
    rintro e w2 ⟨rfl, hb2⟩
    have HB2 : Hid (Below w.heap.size w w2) := HB1.out.trans (hb2.mono (by omega))
    have hz2 := hb2.size
    clear hb2 N1
    go_wp2_with fail
    refine (unhide N2 _).mono ?_
    rintro e w3 ⟨rfl, hb3⟩
    have HB3 : Hid (Below w.heap.size w w3) := HB2.out.trans (hb3.mono (by omega))
    have hz3 := hb3.size
    clear hb3 N2
    go_wp2_with fail
    refine (unhide N3 _).mono ?_
    rintro e w4 ⟨rfl, hb4⟩
    have HB4 : Hid (Below w.heap.size w w4) := HB3.out.trans (hb4.mono (by omega))
    have hz4 := hb4.size
    clear hb4 N3
    go_wp2_with fail
    refine (unhide N4 _).mono ?_
    rintro e w5 ⟨rfl, hb5⟩
    have HB5 : Hid (Below w.heap.size w w5) := HB4.out.trans (hb5.mono (by omega))
    clear hb5 N4
    go_wp2_with fail
    go_ret
    exact ⟨by rw [← HE2.out]; rfl, HB5.out⟩
  · refine ⟨⟨6, dn, an, 0, c6⟩, ⟨by show dn < 16; omega, by show an < 16; omega, by show 0 < 16; omega, .inr (.inr (.inl ⟨rfl, rfl, by show c6 ≤ 4095; omega⟩))⟩, by show c6 < 4294967296; omega, ?_⟩
    have HE := putT_app 6 dn an 0 c6 (by omega) (by omega) (by omega) (by omega)
    have N0 := hide (fun w' => keepNumber_any 6 1 w' (by decide) (by omega))
    have N1 := hide (fun w' => keepNumber_any dn 1 w' (by decide) (by omega))
    have N2 := hide (fun w' => keepNumber_any an 1 w' (by decide) (by omega))
    have N3 := hide (fun w' => keepNumber_any 0 1 w' (by decide) (by omega))
    have N4 := hide (fun w' => keepNumber_any c6 4 w' (by decide) (by omega))
    have z0 := bya_sz 1 6; have z1 := bya_sz 1 dn; have z2 := bya_sz 1 an; have z3 := bya_sz 1 0; have z4 := bya_sz 4 c6
    obtain ⟨D0, hD0⟩ : ∃ D, D = bya (numB 1 6) := ⟨_, rfl⟩
    obtain ⟨D1, hD1⟩ : ∃ D, D = bya (numB 1 dn) := ⟨_, rfl⟩
    obtain ⟨D2, hD2⟩ : ∃ D, D = bya (numB 1 an) := ⟨_, rfl⟩
    obtain ⟨D3, hD3⟩ : ∃ D, D = bya (numB 1 0) := ⟨_, rfl⟩
    obtain ⟨D4, hD4⟩ : ∃ D, D = bya (numB 4 c6) := ⟨_, rfl⟩
    have HE2 : Hid (D0 ++ D1 ++ D2 ++ D3 ++ D4 = bya (putT ⟨6, dn, an, 0, c6⟩)) := by unfold Hid; rw [hD0, hD1, hD2, hD3, hD4]; exact HE
    rw [← hD0] at N0 z0
    rw [← hD1] at N1 z1
    rw [← hD2] at N2 z2
    rw [← hD3] at N3 z3
    rw [← hD4] at N4 z4
    clear hD0 hD1 hD2 hD3 hD4 HE
    intro w
    go_enter Tryd.func30, Tryd.ntmps30
    go_wp2_with fail
    refine (unhide PK _).mono ?_
    rintro e w' ⟨rfl, hw⟩
    obtain rfl := hw.symm
    clear PK
    go_wp2_with fail
    refine (unhide PD _).mono ?_
    rintro e w' ⟨rfl, hw⟩
    obtain rfl := hw.symm
    clear PD
    go_wp2_with fail
    refine (unhide PA _).mono ?_
    rintro e w' ⟨rfl, hw⟩
    obtain rfl := hw.symm
    clear PA
    go_wp2_with fail
    refine (unhide PB _).mono ?_
    rintro e w' ⟨rfl, hw⟩
    obtain rfl := hw.symm
    clear PB
    go_wp2_with fail
    refine (unhide P6 _).mono ?_
    rintro e w' ⟨rfl, hw⟩
    obtain rfl := hw.symm
    clear P6
    go_wp2_with fail
    refine (unhide N0 _).mono ?_
    rintro e w1 ⟨rfl, hb1⟩
    have HB1 : Hid (Below w.heap.size w w1) := ((Below.refl _ _).alloc (Nat.le_refl _) _).trans (hb1.mono (by rw [size_alloc1]; omega))
    have hz1 := hb1.size
    rw [size_alloc1] at hz1
    clear hb1 N0
    go_wp2_with fail
    refine (unhide N1 _).mono ?_
    rintro e w2 ⟨rfl, hb2⟩
    have HB2 : Hid (Below w.heap.size w w2) := HB1.out.trans (hb2.mono (by omega))
    have hz2 := hb2.size
    clear hb2 N1
    go_wp2_with fail
    refine (unhide N2 _).mono ?_
    rintro e w3 ⟨rfl, hb3⟩
    have HB3 : Hid (Below w.heap.size w w3) := HB2.out.trans (hb3.mono (by omega))
    have hz3 := hb3.size
    clear hb3 N2
    go_wp2_with fail
    refine (unhide N3 _).mono ?_
    rintro e w4 ⟨rfl, hb4⟩
    have HB4 : Hid (Below w.heap.size w w4) := HB3.out.trans (hb4.mono (by omega))
    have hz4 := hb4.size
    clear hb4 N3
    go_wp2_with fail
    refine (unhide N4 _).mono ?_
    rintro e w5 ⟨rfl, hb5⟩
    have HB5 : Hid (Below w.heap.size w w5) := HB4.out.trans (hb5.mono (by omega))
    clear hb5 N4
    go_wp2_with fail
    go_ret
    exact ⟨by rw [← HE2.out]; rfl, HB5.out⟩
  · refine ⟨⟨7, dn, an, 0, 0⟩, ⟨by show dn < 16; omega, by show an < 16; omega, by show 0 < 16; omega, .inr (.inr (.inr ⟨rfl, rfl, rfl⟩))⟩, by show 0 < 4294967296; omega, ?_⟩
    have HE := putT_app 7 dn an 0 0 (by omega) (by omega) (by omega) (by omega)
    have N0 := hide (fun w' => keepNumber_any 7 1 w' (by decide) (by omega))
    have N1 := hide (fun w' => keepNumber_any dn 1 w' (by decide) (by omega))
    have N2 := hide (fun w' => keepNumber_any an 1 w' (by decide) (by omega))
    have N3 := hide (fun w' => keepNumber_any 0 1 w' (by decide) (by omega))
    have N4 := hide (fun w' => keepNumber_any 0 4 w' (by decide) (by omega))
    have z0 := bya_sz 1 7; have z1 := bya_sz 1 dn; have z2 := bya_sz 1 an; have z3 := bya_sz 1 0; have z4 := bya_sz 4 0
    obtain ⟨D0, hD0⟩ : ∃ D, D = bya (numB 1 7) := ⟨_, rfl⟩
    obtain ⟨D1, hD1⟩ : ∃ D, D = bya (numB 1 dn) := ⟨_, rfl⟩
    obtain ⟨D2, hD2⟩ : ∃ D, D = bya (numB 1 an) := ⟨_, rfl⟩
    obtain ⟨D3, hD3⟩ : ∃ D, D = bya (numB 1 0) := ⟨_, rfl⟩
    obtain ⟨D4, hD4⟩ : ∃ D, D = bya (numB 4 0) := ⟨_, rfl⟩
    have HE2 : Hid (D0 ++ D1 ++ D2 ++ D3 ++ D4 = bya (putT ⟨7, dn, an, 0, 0⟩)) := by unfold Hid; rw [hD0, hD1, hD2, hD3, hD4]; exact HE
    rw [← hD0] at N0 z0
    rw [← hD1] at N1 z1
    rw [← hD2] at N2 z2
    rw [← hD3] at N3 z3
    rw [← hD4] at N4 z4
    clear hD0 hD1 hD2 hD3 hD4 HE
    intro w
    go_enter Tryd.func30, Tryd.ntmps30
    go_wp2_with fail
    refine (unhide PK _).mono ?_
    rintro e w' ⟨rfl, hw⟩
    obtain rfl := hw.symm
    clear PK
    go_wp2_with fail
    refine (unhide PD _).mono ?_
    rintro e w' ⟨rfl, hw⟩
    obtain rfl := hw.symm
    clear PD
    go_wp2_with fail
    refine (unhide PA _).mono ?_
    rintro e w' ⟨rfl, hw⟩
    obtain rfl := hw.symm
    clear PA
    go_wp2_with fail
    refine (unhide PB _).mono ?_
    rintro e w' ⟨rfl, hw⟩
    obtain rfl := hw.symm
    clear PB
    go_wp2_with fail
    refine (unhide N0 _).mono ?_
    rintro e w1 ⟨rfl, hb1⟩
    have HB1 : Hid (Below w.heap.size w w1) := ((Below.refl _ _).alloc (Nat.le_refl _) _).trans (hb1.mono (by rw [size_alloc1]; omega))
    have hz1 := hb1.size
    rw [size_alloc1] at hz1
    clear hb1 N0
    go_wp2_with fail
    refine (unhide N1 _).mono ?_
    rintro e w2 ⟨rfl, hb2⟩
    have HB2 : Hid (Below w.heap.size w w2) := HB1.out.trans (hb2.mono (by omega))
    have hz2 := hb2.size
    clear hb2 N1
    go_wp2_with fail
    refine (unhide N2 _).mono ?_
    rintro e w3 ⟨rfl, hb3⟩
    have HB3 : Hid (Below w.heap.size w w3) := HB2.out.trans (hb3.mono (by omega))
    have hz3 := hb3.size
    clear hb3 N2
    go_wp2_with fail
    refine (unhide N3 _).mono ?_
    rintro e w4 ⟨rfl, hb4⟩
    have HB4 : Hid (Below w.heap.size w w4) := HB3.out.trans (hb4.mono (by omega))
    have hz4 := hb4.size
    clear hb4 N3
    go_wp2_with fail
    refine (unhide N4 _).mono ?_
    rintro e w5 ⟨rfl, hb5⟩
    have HB5 : Hid (Below w.heap.size w w5) := HB4.out.trans (hb5.mono (by omega))
    clear hb5 N4
    go_wp2_with fail
    go_ret
    exact ⟨by rw [← HE2.out]; rfl, HB5.out⟩
end Go.Proofs.YtmmflekajbeamaaDoor

namespace Go.Proofs.YtmmflekajbeamaaDoor
open Go.RowKit Go.Shelf
attribute [local go_sem] Oper.semAt_some

def dPut : PutN := ⟨1, 0, 0, 0, 0⟩
theorem dPut_ok : okB dPut := ⟨by decide, by decide, by decide, by decide, by decide, by decide, ⟨by decide, by decide, by decide, .inl ⟨rfl, rfl, rfl⟩⟩⟩
/-- What comes in a round: a place and a put. -/
abbrev BkX := { x : Nat × PutN // okB x.2 }
def okBD (p : PutN) : Decidable (okB p) := by
  have h := okDec p
  unfold okB
  exact inferInstance
def bkF (ps : List PutN) (i : Nat) : BkX := @dite BkX (okB (ps.getD i dPut)) (okBD _) (fun h => ⟨(i, ps.getD i dPut), h⟩) (fun _ => ⟨(i, dPut), dPut_ok⟩)
theorem bkF_eq {ps : List PutN} (hw : ∀ p ∈ ps, okB p) {i : Nat} (hi : i < ps.length) : (bkF ps i).1 = (i, ps[i]) := by
  have e : ps.getD i dPut = ps[i] := by rw [List.getD_eq_getElem?_getD, List.getElem?_eq_getElem hi]; rfl
  have h : okB (ps.getD i dPut) := by rw [e]; exact hw _ (List.getElem_mem _)
  unfold bkF
  rw [dif_pos h]
  show (i, ps.getD i dPut) = _
  rw [e]
/-- What has come when k rounds are over. -/
def bkU (ps : List PutN) (k : Nat) : List BkX := (List.range k).map fun j => bkF ps (ps.length - 1 - j)
theorem bkU_succ (ps : List PutN) (k : Nat) : bkU ps (k + 1) = bkU ps k ++ [bkF ps (ps.length - 1 - k)] := by simp [bkU, List.range_succ]
theorem bkU_len (ps : List PutN) (k : Nat) : (bkU ps k).length = k := by simp [bkU]

/-- What a round keeps: what lay below n₁, and the block Bs. -/
def BKp (n₁ Bs : Nat) (W W' : World) : Prop := Below n₁ W W' ∧ W'.heap[Bs]? = W.heap[Bs]?
theorem BKp.refl (n₁ Bs : Nat) (W : World) : BKp n₁ Bs W W := ⟨Below.refl _ _, rfl⟩
theorem BKp.trans {n₁ Bs : Nat} {A B C : World} (h : BKp n₁ Bs A B) (h' : BKp n₁ Bs B C) : BKp n₁ Bs A C := ⟨h.1.trans h'.1, h'.2.trans h.2⟩
set_option maxRecDepth 100000 in
set_option maxHeartbeats 2000000 in
theorem backward1_in (F : Fence) (n : Nat) (hf : F.fn 160) (hro : F.round = none) (hn : 1 ≤ n) (l Bs n₀ g cap : Nat) (ps : List PutN) (hw : ∀ p ∈ ps, okB p) (hl : ps.length ≤ 8) (hb : g < n₀) (J Jx : List BkX → World → Prop)
    (hY : ∀ pre x W, J pre W → pre.length < ps.length → YieldAt F (n - 1) Tryd.prog l #[.int .i64 (x.1.1 : Int), .agg (putV x.1.2)] W fun e W' =>
      (e = .returned (.bool true) ∧ J (pre ++ [x]) W' ∧ BKp n₀ Bs W W') ∨ (e = .returned (.bool false) ∧ Jx (pre ++ [x]) W'))
    (W : World) (hc0 : W.cell? ⟨Bs, 0, none⟩ = some (.slice (some ⟨g, 0, none⟩) ps.length cap)) (hc : ∀ j p, ps[j]? = some p → W.rangeAt g (j * 5) (putV p).toList) (h0 : J [] W) :
    CallsIn F n Tryd.prog 160 #[.func (.yield l) #[] #[], .pointer (some ⟨Bs, 0, none⟩)] W fun e W' => (∃ v, e = .returned v) ∧
      ((∃ ys, ys = bkU ps ps.length ∧ J ys W') ∨ (∃ pre, (∃ k, k ≤ ps.length ∧ pre = bkU ps k) ∧ Jx pre W')) := by
  refine callsIn_of_wp Tryd.func160 rfl hf ?_ hro
  simp only [Tryd.ntmps160, List.size_toArray, List.length_cons, List.length_nil, Nat.reduceAdd, Nat.reduceSub, Array.replicate_succ, Array.replicate_zero, List.push_toArray, List.append_toArray, List.nil_append, List.cons_append]
  have hl' : (ps.length : Int) ≤ 8 := by omega
  gi_wp2
  gi_loopw [3] (fun i wr => ∃ k : Nat, k ≤ ps.length ∧ i = .int .i64 ((ps.length : Int) - 1 - k) ∧ J (bkU ps k) wr ∧ BKp n₀ Bs W wr)
    (fun i _ => (intOf i + 1).toNat)
  case atStart => exact ⟨0, Nat.zero_le _, by simp, h0, BKp.refl _ _ _⟩
  case round =>
    obtain ⟨k, hk, rfl, hJs, hnx⟩ := hrel
    have hcb := (cell_heap 0 hnx.2).trans hc0
    by_cases hlt : k < ps.length
    · obtain ⟨i, hi⟩ : ∃ i, ps.length - 1 - k = i := ⟨_, rfl⟩
      have hii : (ps.length : Int) - 1 - (k : Int) = (i : Int) := by omega
      have hil : i < ps.length := by omega
      have hil' : (i : Int) < (ps.length : Int) := by omega
      obtain ⟨fn, tmps, assign, body, hy, hR⟩ := hY _ (bkF ps i) wr hJs (by rw [bkU_len]; exact hlt)
      rw [bkF_eq hw hil] at hy
      have hx : ps[i]? = some ps[i] := List.getElem?_eq_getElem hil
      have hcr := hc i ps[i] hx
      have cx : ∀ j v, (putV ps[i]).toList[j]? = some v → wr.cell? ⟨g, i * 5 + j, none⟩ = some v := fun j v hv => (hnx.1.cell (p := ⟨g, i * 5 + j, none⟩) hb).trans (hcr j v hv)
      generalize ps[i] = p at *
      obtain ⟨p0, p1, p2, p3, p4⟩ := p
      have x0 : wr.cell? ⟨g, i * 5, none⟩ = some (.int .i64 (p0 : Int)) := cx 0 _ rfl
      have x1 : wr.cell? ⟨g, i * 5 + 1, none⟩ = some (.int .i64 (p1 : Int)) := cx 1 _ rfl
      have x2 : wr.cell? ⟨g, i * 5 + 1 + 1, none⟩ = some (.int .i64 (p2 : Int)) := cx 2 _ rfl
      have x3 : wr.cell? ⟨g, i * 5 + 1 + 1 + 1, none⟩ = some (.int .i64 (p3 : Int)) := cx 3 _ rfl
      have x4 : wr.cell? ⟨g, i * 5 + 1 + 1 + 1 + 1, none⟩ = some (.int .i64 (p4 : Int)) := cx 4 _ rfl
      simp only [putV] at hy
      rw [hii]
      clear cx hcr hx
      gi_wp2
      refine hR.mono ?_
      rintro e W3 (⟨rfl, hJ3, hk3⟩ | ⟨rfl, hJx3⟩)
      · gi_wp2
        go_roundw
        case rel => exact ⟨k + 1, by omega, by congr 1; omega, by rw [bkU_succ, hi]; exact hJ3, hnx.trans hk3⟩
        case measure => simp [intOf]
      · gi_wp2
        refine bodyPost_ret (results_none rfl _ _ _) rfl ?_
        exact ⟨⟨_, rfl⟩, .inr ⟨_, ⟨k + 1, by omega, by rw [bkU_succ, hi]⟩, hJx3⟩⟩
    · obtain rfl : k = ps.length := by omega
      have hneg : ¬ (0 : Int) ≤ (ps.length : Int) - 1 - (ps.length : Int) := by omega
      gi_wp2
      go_end0
      first
      | exact ⟨⟨_, rfl⟩, .inl ⟨_, rfl, hJs⟩⟩
      | exact ⟨⟨_, rfl⟩, .inl hJs⟩
set_option maxRecDepth 100000 in
set_option maxHeartbeats 2000000 in
theorem backward1_nil (F : Fence) (n : Nat) (hf : F.fn 160) (hro : F.round = none) (l Bs : Nat) (a : Option Addr) (cap : Nat) (J : List BkX → World → Prop) (W : World) (hc0 : W.cell? ⟨Bs, 0, none⟩ = some (.slice a 0 cap)) (h0 : J [] W) :
    CallsIn F n Tryd.prog 160 #[.func (.yield l) #[] #[], .pointer (some ⟨Bs, 0, none⟩)] W fun e W' => (∃ v, e = .returned v) ∧ J [] W' := by
  refine callsIn_of_wp Tryd.func160 rfl hf ?_ hro
  simp only [Tryd.ntmps160, List.size_toArray, List.length_cons, List.length_nil, Nat.reduceAdd, Nat.reduceSub, Array.replicate_succ, Array.replicate_zero, List.push_toArray, List.append_toArray, List.nil_append, List.cons_append]
  gi_wp2
  gi_loopw [3] (fun i wr => i = .int .i64 (-1) ∧ J [] wr) (fun _ _ => 0)
  case atStart => exact ⟨rfl, h0⟩
  case round =>
    obtain ⟨rfl, hJs⟩ := hrel
    gi_wp2
    go_end0
    exact ⟨⟨_, rfl⟩, hJs⟩
set_option maxHeartbeats 1000000 in
/-- slices.Backward itself: the slice is boxed; the value captures the box. -/
theorem backward_in (F : Fence) (n : Nat) (hf : F.fn 135) (hro : F.round = none) (a : Option Addr) (len cap : Nat) (w : World) :
    CallsIn F n Tryd.prog 135 #[.slice a len cap] w fun e w' => e = .returned (.func (.func 160) #[] #[.pointer (some ⟨w.heap.size, 0, none⟩)]) ∧ w' = w.alloc (.cells #[.slice a len cap] 61) := by
  refine callsIn_of_wp Tryd.func135 rfl hf ?_ hro
  simp only [Tryd.ntmps135, List.size_toArray, List.length_cons, List.length_nil, Nat.reduceAdd, Nat.reduceSub, Array.replicate_succ, Array.replicate_zero, List.push_toArray, List.append_toArray, List.nil_append, List.cons_append]
  gi_wp2
  go_ret
  exact ⟨rfl, rfl⟩
theorem row_range {w : World} {B g cap : Nat} {ps : List PutN} (h : w.ownsRow B 59 5 (.slice (some ⟨g, 0, none⟩) ps.length cap) ps.length (putCs ps)) (j : Nat) (p : PutN) (hj : ps[j]? = some p) : w.rangeAt g (j * 5) (putV p).toList := by
  intro i v hv
  have hlt : j < ps.length := (List.getElem?_eq_some_iff.1 hj).1
  have hi : i < 5 := (List.getElem?_eq_some_iff.1 hv).1
  rw [h.cellAt _ (by omega)]
  have := flat_at (fun p => (putV p).toList) 5 (fun _ => rfl) ps j p hj i hi
  unfold putCs
  rw [this]
  exact hv
/-- What slices.Backward hands back hands out all puts, the last first; or some of them. -/
theorem backward_stops (F : Fence) (n : Nat) (hf : F.fn 160) (hro : F.round = none) (hn : 1 ≤ n) (B Bs n₀ : Nat) (sv : Value) (ps : List PutN) (hw : ∀ p ∈ ps, okB p) (hl : ps.length ≤ 8) (w : World) (hBs : Bs < w.heap.size)
    (hc : w.cell? ⟨Bs, 0, none⟩ = some sv) (hI : w.ownsRow B 59 5 sv ps.length (putCs ps)) (hsv : ∀ g, sv.ownBlock = some g → g < n₀) :
    SeqStopsK F n Tryd.prog 160 #[.pointer (some ⟨Bs, 0, none⟩)] (fun x : BkX => #[Value.int .i64 (x.1.1 : Int), .agg (putV x.1.2)]) (BKp n₀ Bs) (fun ys => ys = bkU ps ps.length) (fun _ => True) ps.length w := fun l J Jx W hW _ _ hY h0 => by
  have hc' := (hW.cell (p := ⟨Bs, 0, none⟩) hBs).trans hc
  by_cases hz : ps.length = 0
  · obtain rfl : ps = [] := List.length_eq_zero_iff.1 hz
    obtain ⟨a, c, rfl⟩ := owns_len hI
    exact (backward1_nil F n hf hro l Bs a c J W hc' h0).mono fun e W' ⟨he, hj⟩ => ⟨he, .inl ⟨_, rfl, hj⟩⟩
  · obtain ⟨g, cap, rfl, _, hgl⟩ := hI.form (by omega)
    refine (backward1_in F n hf hro hn l Bs n₀ g cap ps hw hl (hsv g rfl) J Jx hY W hc' (fun j p hj => row_range (own_grow hI hW) j p hj) h0).mono ?_
    rintro e W' ⟨he, ⟨ys, rfl, hj⟩ | ⟨pre, ⟨k, hk, rfl⟩, hj⟩⟩
    · exact ⟨he, .inl ⟨_, rfl, hj⟩⟩
    · exact ⟨he, .inr ⟨_, trivial, hj⟩⟩
end Go.Proofs.YtmmflekajbeamaaDoor
