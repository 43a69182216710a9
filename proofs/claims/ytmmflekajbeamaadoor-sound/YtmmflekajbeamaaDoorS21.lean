/-
  The machine's step: package machine's, as package crib hands it on.
  Sound: a state made right (fit).
-/
import Derived.Test.YtmmflekajbeamaaDoorS20
import Derived.Test.YtmmflekajbeamaaDoorS17
namespace Go.Proofs.YtmmflekajbeamaaDoor
open Go.RowKit

theorem kn_a {op a b c : Int} (h : knB op a b c = true) (h0 : op ≠ 0) (h9 : op ≠ 9) : a < 8 := by
  unfold knB at h
  rw [if_neg (by omega)] at h
  split at h
  · simpa using h
  · split at h
    · simp at h; omega
    · split at h
      · simp at h; omega
      · cases h
theorem kn_b {op a b c : Int} (h : knB op a b c = true) (h2 : 2 ≤ op) (h8 : op ≤ 8) : b < 8 := by
  unfold knB at h
  rw [if_neg (by omega), if_neg (by omega)] at h
  split at h
  · simp at h; omega
  · split at h
    · simp at h; omega
    · cases h
theorem kn_c {op a b c : Int} (h : knB op a b c = true) (h2 : 2 ≤ op) (h5 : op ≤ 5) : c < 8 := by
  unfold knB at h
  rw [if_neg (by omega), if_neg (by omega), if_pos (by omega)] at h
  simp at h; omega
theorem kn_op {op a b c : Int} (h : knB op a b c = true) (h0 : 0 ≤ op) : op ≤ 10 := by
  by_cases h' : 10 < op
  · rw [knB_no op a b c h'] at h; cases h
  · omega

theorem nxt_len (z : List Int) (op a b c k : Int) (hl : z.length = 138) : (nxt z op a b c k).length = 138 := by
  unfold nxt
  repeat' split
  all_goals simp [hl]

theorem perform_any (z : List Int) (op a b c k : Int) (w : World) (hl : z.length = 138) (hs : stB z = true) (hk : knB op a b c = true) (o0 : 0 ≤ op) (a0 : 0 ≤ a) (b0 : 0 ≤ b) (c0 : 0 ≤ c) (k0 : 0 ≤ k) (k1 : k < 4096) :
    Calls Tryd.prog 121 #[.agg (S z), .agg #[.int .i64 op, .int .i64 a, .int .i64 b, .int .i64 c, .int .i64 k]] w fun e' w' => e' = .returned (.agg (S (nxt z op a b c k))) ∧ Below w.heap.size w w' := by
  have hop := kn_op hk o0
  obtain ⟨p0, p1, _, _⟩ := stB_pc hs
  have hr := fun i hi => stB_reg hs i hi
  obtain ⟨A, rfl⟩ := Int.eq_ofNat_of_zero_le a0
  obtain ⟨B, rfl⟩ := Int.eq_ofNat_of_zero_le b0
  obtain ⟨C, rfl⟩ := Int.eq_ofNat_of_zero_le c0
  obtain ⟨K, rfl⟩ := Int.eq_ofNat_of_zero_le k0
  have h : op = 0 ∨ op = 1 ∨ op = 2 ∨ op = 3 ∨ op = 4 ∨ op = 5 ∨ op = 6 ∨ op = 7 ∨ op = 8 ∨ op = 9 ∨ op = 10 := by omega
  rcases h with rfl | rfl | rfl | rfl | rfl | rfl | rfl | rfl | rfl | rfl | rfl
  · exact perform_halt z A B C K w hl p0 p1
  · have := kn_a hk (by decide) (by decide)
    exact perform_set z A B C K w hl (by omega) p0 p1
  · have h1 := kn_a hk (by decide) (by decide); have h2 := kn_b hk (by decide) (by decide); have h3 := kn_c hk (by decide) (by decide)
    exact perform_add z A B C K w hl (by omega) (by omega) (by omega) (hr B (by omega)).1 (hr B (by omega)).2 (hr C (by omega)).1 (hr C (by omega)).2 p0 p1
  · have h1 := kn_a hk (by decide) (by decide); have h2 := kn_b hk (by decide) (by decide); have h3 := kn_c hk (by decide) (by decide)
    exact perform_sub z A B C K w hl (by omega) (by omega) (by omega) (hr B (by omega)).1 (hr B (by omega)).2 (hr C (by omega)).1 (hr C (by omega)).2 p0 p1
  · have h1 := kn_a hk (by decide) (by decide); have h2 := kn_b hk (by decide) (by decide); have h3 := kn_c hk (by decide) (by decide)
    exact perform_xor z A B C K w hl (by omega) (by omega) (by omega) (hr B (by omega)).1 (hr B (by omega)).2 (hr C (by omega)).1 (hr C (by omega)).2 p0 p1
  · have h1 := kn_a hk (by decide) (by decide); have h2 := kn_b hk (by decide) (by decide); have h3 := kn_c hk (by decide) (by decide)
    exact perform_mul z A B C K w hl (by omega) (by omega) (by omega) (hr B (by omega)).1 (hr B (by omega)).2 (hr C (by omega)).1 (hr C (by omega)).2 p0 p1
  · have h1 := kn_a hk (by decide) (by decide); have h2 := kn_b hk (by decide) (by decide)
    exact perform_load z A B C K w hl (by omega) (by omega) (by omega) (hr B (by omega)).1 (hr B (by omega)).2 p0 p1
  · have h1 := kn_a hk (by decide) (by decide); have h2 := kn_b hk (by decide) (by decide)
    exact perform_store z A B C K w hl (by omega) (by omega) (by omega) (hr B (by omega)).1 (hr B (by omega)).2 p0 p1
  · have h1 := kn_a hk (by decide) (by decide); have h2 := kn_b hk (by decide) (by decide)
    by_cases hq : gz z A = gz z B
    · exact perform_same_yes z A B C K w hl (by omega) (by omega) hq p0 p1
    · exact perform_same_no z A B C K w hl (by omega) (by omega) hq p0 p1
  · exact perform_jump z A B C K w hl p0 p1
  · have h1 := kn_a hk (by decide) (by decide)
    exact perform_turn z A B C K w hl (by omega) (hr A (by omega)).1 (hr A (by omega)).2 p0 p1


theorem build34 (w : World) : (Instr.build 34 #[]).run Tryd.prog w = .ok (.agg (S zeroZ)) w := by kernel_rfl

/-- Two blocks in a row: the state, the result. -/
def W2 (z : List Int) (w : World) : World := (w.alloc (.cells (S z) 34)).alloc (.cells (S zeroZ) 34)
theorem W2_size (z : List Int) (w : World) : (W2 z w).heap.size = w.heap.size + 1 + 1 := by simp [W2]
theorem W2_row0 (z : List Int) (w : World) (hl : z.length = 138) : isRowB (W2 z w) w.heap.size 138 = true := by
  unfold W2
  rw [isRowB_alloc_past _ _ _ _ (by simp), isRowB_alloc_at _ _ _ _ _ rfl]; simp [S_size, hl]
theorem W2_rowD0 (z : List Int) (w : World) : rowD (W2 z w) w.heap.size = S z := by
  unfold W2
  rw [rowD_alloc_past _ _ _ (by simp), rowD_alloc_at _ _ _ _ rfl]
theorem W2_row1 (z : List Int) (w : World) : isRowB (W2 z w) (w.heap.size + 1) 138 = true := by
  unfold W2
  rw [isRowB_alloc_at _ _ _ _ _ (by simp)]; simp [S_size, zeroZ]
theorem W2_below (z : List Int) (w : World) : Below w.heap.size w (W2 z w) := ((Below.refl _ _).alloc (Nat.le_refl _) _).alloc (by simp) _
theorem W2_cell (z : List Int) (w : World) (hl : z.length = 138) (i : Nat) (hi : i < 138) : (W2 z w).cell? ⟨w.heap.size, i, none⟩ = some (.int .i64 (gz z i)) := by
  unfold W2
  rw [World.cell?_alloc_past (hn := by simp), World.cell?_alloc_at (hn := rfl)]; exact S_get z i (by omega)
theorem W2_frozen (z : List Int) (w : World) (i : Nat) : (W2 z w).frozen? ⟨w.heap.size, i, none⟩ = false := by
  unfold W2
  rw [World.frozen?_alloc_past (hn := by simp), World.frozen?_alloc_at (hn := rfl)]

set_option maxRecDepth 100000 in
set_option maxHeartbeats 2000000 in
theorem mstep_bad (z : List Int) (w : World) (hl : z.length = 138) (hs : stB z = false) :
    Calls Tryd.prog 76 #[.agg (S z)] w fun e' w' => e' = .returned (.tuple #[.agg (S (zeroZ)), .int .i64 8]) ∧ Below w.heap.size w w' := by
  have zz := zero34
  have bb := build34
  have HI := hide (isState_any z (W2 z w) hl)
  rw [hs] at HI
  have R0 := W2_row0 z w hl
  have D0 := W2_rowD0 z w
  go_enter Tryd.func76, Tryd.ntmps76
  go_wp2_with (refine wpList_load_S rfl _ rfl _ rfl R0 _ D0 ?_)
  refine (unhide HI).mono ?_
  rintro e w1 ⟨rfl, hb⟩
  rw [W2_size] at hb
  have R1 : isRowB w1 (w.heap.size + 1) 138 = true := by rw [isRowB_below hb (by omega)]; exact W2_row1 z w
  have HB : Hid (Below w.heap.size w w1) := (W2_below z w).trans (hb.mono (by omega))
  obtain ⟨t, hg⟩ := heap_setRow_S R1 (S zeroZ)
  have HG := hide hg
  clear hb hg R0 D0
  go_wp2_with (refine wpList_store_S rfl _ _ rfl _ rfl _ rfl (by simp [zeroZ]) R1 _ rfl ?_)
  exact bodyPost_ret (v := .tuple #[.agg (S (zeroZ)), .int .i64 8]) (res_S Tryd.results76 _ _ _ t (zeroZ) (by simp [zeroZ]) rfl HG.out 8 rfl) rfl ⟨rfl, below_setRow HB.out (by omega) _⟩

set_option maxRecDepth 100000 in
set_option maxHeartbeats 2000000 in
theorem mstep_stop (z : List Int) (w : World) (hl : z.length = 138) (hs : stB z = true) (hp : gz z 137 ≠ 0) :
    Calls Tryd.prog 76 #[.agg (S z)] w fun e' w' => e' = .returned (.tuple #[.agg (S (zeroZ)), .int .i64 9]) ∧ Below w.heap.size w w' := by
  have zz := zero34
  have bb := build34
  have HI := hide (isState_any z (W2 z w) hl)
  rw [hs] at HI
  have R0 := W2_row0 z w hl
  have D0 := W2_rowD0 z w
  have hp' : (gz z 137 != 0) = true := by simpa using hp
  go_enter Tryd.func76, Tryd.ntmps76
  go_wp2_with (refine wpList_load_S rfl _ rfl _ rfl R0 _ D0 ?_)
  refine (unhide HI).mono ?_
  rintro e w1 ⟨rfl, hb⟩
  rw [W2_size] at hb
  have R1 : isRowB w1 (w.heap.size + 1) 138 = true := by rw [isRowB_below hb (by omega)]; exact W2_row1 z w
  have HB : Hid (Below w.heap.size w w1) := (W2_below z w).trans (hb.mono (by omega))
  have c137 : w1.cell? ⟨w.heap.size, 137, none⟩ = some (.int .i64 (gz z 137)) := by rw [hb.cell (p := ⟨w.heap.size, 137, none⟩) (by simp; omega)]; exact W2_cell z w hl 137 (by omega)
  obtain ⟨t, hg⟩ := heap_setRow_S R1 (S zeroZ)
  have HG := hide hg
  clear hb hg R0 D0 hp
  go_wp2_with (refine wpList_store_S rfl _ _ rfl _ rfl _ rfl (by simp [zeroZ]) R1 _ rfl ?_)
  exact bodyPost_ret (v := .tuple #[.agg (S (zeroZ)), .int .i64 9]) (res_S Tryd.results76 _ _ _ t (zeroZ) (by simp [zeroZ]) rfl HG.out 9 rfl) rfl ⟨rfl, below_setRow HB.out (by omega) _⟩

set_option maxRecDepth 100000 in
set_option maxHeartbeats 2000000 in
theorem mstep_trap (z : List Int) (w : World) (hl : z.length = 138) (hs : stB z = true) (hp : gz z 137 = 0) (P : Nat) (hP : gz z 136 = P) (hP1 : P < 128) (v : Int) (hv : gz z (8 + P) = v) (v0 : 0 ≤ v) (v1 : v < 4294967296) (hkn : knB (fop v) (fa v) (fb v) (fc v) = false) (ht : Tab w) :
    Calls Tryd.prog 76 #[.agg (S z)] w fun e' w' => e' = .returned (.tuple #[.agg (S (z.set 137 2)), .int .i64 0]) ∧ Below w.heap.size w w' := by
  have zz := zero34
  have bb := build34
  have HI := hide (isState_any z (W2 z w) hl)
  rw [hs] at HI
  have R0 := W2_row0 z w hl
  have D0 := W2_rowD0 z w
  have hP' : (P : Int) < 128 := by omega
  go_enter Tryd.func76, Tryd.ntmps76
  go_wp2_with (refine wpList_load_S rfl _ rfl _ rfl R0 _ D0 ?_)
  refine (unhide HI).mono ?_
  rintro e w1 ⟨rfl, hb⟩
  rw [W2_size] at hb
  have R1 : isRowB w1 (w.heap.size + 1) 138 = true := by rw [isRowB_below hb (by omega)]; exact W2_row1 z w
  have HB : Hid (Below w.heap.size w w1) := (W2_below z w).trans (hb.mono (by omega))
  have hc1 : ∀ i, i < 138 → w1.cell? ⟨w.heap.size, i, none⟩ = some (.int .i64 (gz z i)) := fun i hi => by rw [hb.cell (p := ⟨w.heap.size, i, none⟩) (by simp; omega)]; exact W2_cell z w hl i hi
  have q0 : isRowB w1 w.heap.size 138 = true := by rw [isRowB_below hb (by omega)]; exact R0
  have d0 : rowD w1 w.heap.size = S z := by rw [rowD_below hb (by omega)]; exact D0
  have hz1 : w.heap.size + 1 < w1.heap.size := by have := hb.size; rw [W2_size] at this; omega
  have fz1 : ∀ i, w1.frozen? ⟨w.heap.size, i, none⟩ = false := fun i => by rw [hb.frozen (p := ⟨w.heap.size, i, none⟩) (by simp; omega)]; exact W2_frozen z w i
  have ht1 : Tab w1 := ht.below ht.pos HB.out
  have c137 := hc1 137 (by omega)
  have c136 := hc1 136 (by omega)
  have cw : w1.cell? ⟨w.heap.size, 8 + P, none⟩ = some (.int .i64 v) := by rw [← hv]; exact hc1 (8 + P) (by omega)
  have HC := hide hc1
  clear hb R0 D0 hc1
  go_wp2_with fail
  refine (split_any v _ v0 v1).mono ?_
  rintro e w2 ⟨rfl, hb2⟩
  have HB2 : Hid (Below w.heap.size w w2) := HB.out.trans (hb2.mono (by omega))
  have R1 : isRowB w2 (w.heap.size + 1) 138 = true := by rw [isRowB_below hb2 (by omega)]; exact R1
  have q0 : isRowB w2 w.heap.size 138 = true := by rw [isRowB_below hb2 (by omega)]; exact q0
  have d0 : rowD w2 w.heap.size = S z := by rw [rowD_below hb2 (by omega)]; exact d0
  have hz2 : w1.heap.size ≤ w2.heap.size := hb2.size
  have fz2 : w2.frozen? ⟨w.heap.size, 137, none⟩ = false := by rw [hb2.frozen (p := ⟨w.heap.size, 137, none⟩) (by simp; omega)]; exact fz1 137
  have k137 : w2.cell? ⟨w.heap.size, 137, none⟩ = some (.int .i64 (gz z 137)) := by rw [hb2.cell (p := ⟨w.heap.size, 137, none⟩) (by simp; omega)]; exact c137
  have ht2 : Tab w2 := ht1.below ht1.pos hb2
  have HT := hide (fun o => isIns_any (fop v) (fa v) (fb v) (fc v) (fk v) (w2.alloc o) (fop_bd v).1 (ht2.below ht2.pos ((Below.refl _ _).alloc (Nat.le_refl _) o)))
  rw [hkn] at HT
  clear hb2 c136 c137 cw HC fz1 ht1 ht2
  go_wp2_with fail
  refine (unhide HT _).mono ?_
  rintro e w3 ⟨rfl, hb3⟩
  simp only [size_alloc1] at hb3
  have R1 : isRowB w3 (w.heap.size + 1) 138 = true := by rw [isRowB_below hb3 (by omega), isRowB_alloc_past _ _ _ _ (by omega)]; exact R1
  have q0 : isRowB w3 w.heap.size 138 = true := by rw [isRowB_below hb3 (by omega), isRowB_alloc_past _ _ _ _ (by omega)]; exact q0
  have d0 : rowD w3 w.heap.size = S z := by rw [rowD_below hb3 (by omega), rowD_alloc_past _ _ _ (by omega)]; exact d0
  have fz3 : w3.frozen? ⟨w.heap.size, 137, none⟩ = false := by rw [hb3.frozen (p := ⟨w.heap.size, 137, none⟩) (by simp; omega), World.frozen?_alloc_past (hn := by omega)]; exact fz2
  have n137 : w3.cell? ⟨w.heap.size, 137, none⟩ = some (.int .i64 (gz z 137)) := by rw [hb3.cell (p := ⟨w.heap.size, 137, none⟩) (by simp; omega), World.cell?_alloc_past (hn := by omega)]; exact k137
  have HB : Hid (Below w.heap.size w (w3.setCell ⟨w.heap.size, 137, none⟩ (.int .i64 2))) := ((HB2.out.alloc (by omega) _).trans (hb3.mono (by omega))).setCell (Nat.le_refl _) _
  have R2 : isRowB (w3.setCell ⟨w.heap.size, 137, none⟩ (.int .i64 2)) (w.heap.size + 1) 138 = true := isRowB_setCell_other R1 _ _ (by omega) _
  have q2 : isRowB (w3.setCell ⟨w.heap.size, 137, none⟩ (.int .i64 2)) w.heap.size 138 = true := isRowB_setCell q0 _ _
  have d2 : rowD (w3.setCell ⟨w.heap.size, 137, none⟩ (.int .i64 2)) w.heap.size = S (z.set 137 2) := by rw [rowD_setCell q0, d0, S_set]
  obtain ⟨t, hg⟩ := heap_setRow_S R2 (S (z.set 137 2))
  have HG := hide hg
  clear hb3 hg
  go_wp2_with (first | (refine wpList_load_S rfl _ rfl _ rfl q2 _ d2 ?_) | (refine wpList_store_S rfl _ _ rfl _ rfl _ rfl (by simp [hl]) R2 _ rfl ?_))
  exact bodyPost_ret (v := .tuple #[.agg (S (z.set 137 2)), .int .i64 0]) (res_S Tryd.results76 _ _ _ t (z.set 137 2) (by simp [hl]) rfl HG.out 0 rfl) rfl ⟨rfl, below_setRow HB.out (by omega) _⟩

set_option maxRecDepth 100000 in
set_option maxHeartbeats 2000000 in
theorem mstep_go (z : List Int) (w : World) (hl : z.length = 138) (hs : stB z = true) (hp : gz z 137 = 0) (P : Nat) (hP : gz z 136 = P) (hP1 : P < 128) (v : Int) (hv : gz z (8 + P) = v) (v0 : 0 ≤ v) (v1 : v < 4294967296) (hkn : knB (fop v) (fa v) (fb v) (fc v) = true) (ht : Tab w) :
    Calls Tryd.prog 76 #[.agg (S z)] w fun e' w' => e' = .returned (.tuple #[.agg (S (nxt z (fop v) (fa v) (fb v) (fc v) (fk v))), .int .i64 0]) ∧ Below w.heap.size w w' := by
  have zz := zero34
  have bb := build34
  have HI := hide (isState_any z (W2 z w) hl)
  rw [hs] at HI
  have R0 := W2_row0 z w hl
  have D0 := W2_rowD0 z w
  have hP' : (P : Int) < 128 := by omega
  go_enter Tryd.func76, Tryd.ntmps76
  go_wp2_with (refine wpList_load_S rfl _ rfl _ rfl R0 _ D0 ?_)
  refine (unhide HI).mono ?_
  rintro e w1 ⟨rfl, hb⟩
  rw [W2_size] at hb
  have R1 : isRowB w1 (w.heap.size + 1) 138 = true := by rw [isRowB_below hb (by omega)]; exact W2_row1 z w
  have HB : Hid (Below w.heap.size w w1) := (W2_below z w).trans (hb.mono (by omega))
  have hc1 : ∀ i, i < 138 → w1.cell? ⟨w.heap.size, i, none⟩ = some (.int .i64 (gz z i)) := fun i hi => by rw [hb.cell (p := ⟨w.heap.size, i, none⟩) (by simp; omega)]; exact W2_cell z w hl i hi
  have q0 : isRowB w1 w.heap.size 138 = true := by rw [isRowB_below hb (by omega)]; exact R0
  have d0 : rowD w1 w.heap.size = S z := by rw [rowD_below hb (by omega)]; exact D0
  have hz1 : w.heap.size + 1 < w1.heap.size := by have := hb.size; rw [W2_size] at this; omega
  have fz1 : ∀ i, w1.frozen? ⟨w.heap.size, i, none⟩ = false := fun i => by rw [hb.frozen (p := ⟨w.heap.size, i, none⟩) (by simp; omega)]; exact W2_frozen z w i
  have ht1 : Tab w1 := ht.below ht.pos HB.out
  have c137 := hc1 137 (by omega)
  have c136 := hc1 136 (by omega)
  have cw : w1.cell? ⟨w.heap.size, 8 + P, none⟩ = some (.int .i64 v) := by rw [← hv]; exact hc1 (8 + P) (by omega)
  have HC := hide hc1
  clear hb R0 D0 hc1
  go_wp2_with fail
  refine (split_any v _ v0 v1).mono ?_
  rintro e w2 ⟨rfl, hb2⟩
  have HB2 : Hid (Below w.heap.size w w2) := HB.out.trans (hb2.mono (by omega))
  have R1 : isRowB w2 (w.heap.size + 1) 138 = true := by rw [isRowB_below hb2 (by omega)]; exact R1
  have q0 : isRowB w2 w.heap.size 138 = true := by rw [isRowB_below hb2 (by omega)]; exact q0
  have d0 : rowD w2 w.heap.size = S z := by rw [rowD_below hb2 (by omega)]; exact d0
  have hz2 : w1.heap.size ≤ w2.heap.size := hb2.size
  have fz2 : w2.frozen? ⟨w.heap.size, 137, none⟩ = false := by rw [hb2.frozen (p := ⟨w.heap.size, 137, none⟩) (by simp; omega)]; exact fz1 137
  have k137 : w2.cell? ⟨w.heap.size, 137, none⟩ = some (.int .i64 (gz z 137)) := by rw [hb2.cell (p := ⟨w.heap.size, 137, none⟩) (by simp; omega)]; exact c137
  have ht2 : Tab w2 := ht1.below ht1.pos hb2
  have HT := hide (fun o => isIns_any (fop v) (fa v) (fb v) (fc v) (fk v) (w2.alloc o) (fop_bd v).1 (ht2.below ht2.pos ((Below.refl _ _).alloc (Nat.le_refl _) o)))
  rw [hkn] at HT
  clear hb2 c136 c137 cw HC fz1 ht1 ht2
  go_wp2_with fail
  refine (unhide HT _).mono ?_
  rintro e w3 ⟨rfl, hb3⟩
  simp only [size_alloc1] at hb3
  have R1 : isRowB w3 (w.heap.size + 1) 138 = true := by rw [isRowB_below hb3 (by omega), isRowB_alloc_past _ _ _ _ (by omega)]; exact R1
  have q0 : isRowB w3 w.heap.size 138 = true := by rw [isRowB_below hb3 (by omega), isRowB_alloc_past _ _ _ _ (by omega)]; exact q0
  have d0 : rowD w3 w.heap.size = S z := by rw [rowD_below hb3 (by omega), rowD_alloc_past _ _ _ (by omega)]; exact d0
  have e0 : w3.cell? ⟨w2.heap.size, 0, none⟩ = some (.int .i64 (fop v)) := by rw [hb3.cell (p := ⟨w2.heap.size, 0, none⟩) (by simp), World.cell?_alloc_at (hn := rfl)]; rfl
  have e1 : w3.cell? ⟨w2.heap.size, 1, none⟩ = some (.int .i64 (fa v)) := by rw [hb3.cell (p := ⟨w2.heap.size, 1, none⟩) (by simp), World.cell?_alloc_at (hn := rfl)]; rfl
  have e2 : w3.cell? ⟨w2.heap.size, 2, none⟩ = some (.int .i64 (fb v)) := by rw [hb3.cell (p := ⟨w2.heap.size, 2, none⟩) (by simp), World.cell?_alloc_at (hn := rfl)]; rfl
  have e3 : w3.cell? ⟨w2.heap.size, 3, none⟩ = some (.int .i64 (fc v)) := by rw [hb3.cell (p := ⟨w2.heap.size, 3, none⟩) (by simp), World.cell?_alloc_at (hn := rfl)]; rfl
  have e4 : w3.cell? ⟨w2.heap.size, 4, none⟩ = some (.int .i64 (fk v)) := by rw [hb3.cell (p := ⟨w2.heap.size, 4, none⟩) (by simp), World.cell?_alloc_at (hn := rfl)]; rfl
  have hz3 : w2.heap.size < w3.heap.size := by have := hb3.size; simp at this; omega
  have HB3 : Hid (Below w.heap.size w w3) := (HB2.out.alloc (by omega) _).trans (hb3.mono (by omega))
  clear hb3
  go_wp2_with (refine wpList_load_S rfl _ rfl _ rfl q0 _ d0 ?_)
  refine (perform_any z (fop v) (fa v) (fb v) (fc v) (fk v) _ hl hs hkn (fop_bd v).1 (fa_bd v).1 (fb_bd v).1 (fc_bd v).1 (fk_bd v).1 (fk_bd v).2).mono ?_
  rintro e w4 ⟨rfl, hb4⟩
  have HB : Hid (Below w.heap.size w w4) := HB3.out.trans (hb4.mono (by omega))
  have R2 : isRowB w4 (w.heap.size + 1) 138 = true := by rw [isRowB_below hb4 (by omega)]; exact R1
  obtain ⟨t, hg⟩ := heap_setRow_S R2 (S (nxt z (fop v) (fa v) (fb v) (fc v) (fk v)))
  have HG := hide hg
  have HL := hide (nxt_len z (fop v) (fa v) (fb v) (fc v) (fk v) hl)
  clear hb4 hg
  go_wp2_with (refine wpList_store_S rfl _ _ rfl _ rfl _ rfl HL.out R2 _ rfl ?_)
  exact bodyPost_ret (v := .tuple #[.agg (S (nxt z (fop v) (fa v) (fb v) (fc v) (fk v))), .int .i64 0]) (res_S Tryd.results76 _ _ _ t (nxt z (fop v) (fa v) (fb v) (fc v) (fk v)) HL.out rfl HG.out 0 rfl) rfl ⟨rfl, below_setRow HB.out (by omega) _⟩

end Go.Proofs.YtmmflekajbeamaaDoor

namespace Go.Proofs.YtmmflekajbeamaaDoor
open Go.RowKit

theorem isRowB_heap {w w' : World} {n k : Nat} (h : w'.heap[n]? = w.heap[n]?) : isRowB w' n k = isRowB w n k := by unfold isRowB; rw [h]
def pk (v : Int) : Int := pickI v 4294967296
/-- A state whose first k numbers are made words. -/
def fit1 (z : List Int) (k : Nat) : List Int := (z.take k).map pk ++ z.drop k
theorem fit1_zero (z : List Int) : fit1 z 0 = z := by simp [fit1]
theorem fit1_len (z : List Int) (k : Nat) : (fit1 z k).length = z.length := by simp [fit1]; omega
theorem fit1_get {z : List Int} {k : Nat} (hk : k ≤ z.length) {i : Nat} (h : k ≤ i) : gz (fit1 z k) i = gz z i := by
  unfold gz fit1
  have hl : ((z.take k).map pk).length = k := by simp; omega
  rw [List.getD_eq_getElem?_getD, List.getD_eq_getElem?_getD, List.getElem?_append_right (by omega), hl, List.getElem?_drop, show k + (i - k) = i by omega]
theorem fit1_set {z : List Int} {k : Nat} (h : k < z.length) : (fit1 z k).set k (pk (gz z k)) = fit1 z (k + 1) := by
  have hl : ((z.take k).map pk).length = k := by simp; omega
  have hg : gz z k = z[k] := by unfold gz; rw [List.getD_eq_getElem?_getD, List.getElem?_eq_getElem h]; rfl
  unfold fit1
  rw [List.drop_eq_getElem_cons h, List.set_append_right _ _ (by omega), hl, Nat.sub_self, List.set_cons_zero, hg, ← List.take_append_getElem h, List.map_append]
  simp
theorem pk_bd (v : Int) : 0 ≤ pk v ∧ pk v < 4294967296 := pickI_bd v 4294967296 (by decide)
def fitZ (z : List Int) : List Int := ((fit1 z 136).set 136 (pickI (gz z 136) 128)).set 137 0
theorem fitZ_form {z : List Int} (hz : z.length = 138) : ∃ (regs mem : List Int) (pc : Nat), fitZ z = mkZ regs mem pc 0 ∧ WL 8 regs ∧ WL 128 mem ∧ pc < 128 := by
  have hp := pickI_bd (gz z 136) 128 (by decide)
  obtain ⟨pc, hpc⟩ := Int.eq_ofNat_of_zero_le hp.1
  have hw : ∀ l : List Int, ∀ x ∈ l.map pk, 0 ≤ x ∧ x < 4294967296 := fun l x hx => by
    obtain ⟨y, _, rfl⟩ := List.mem_map.1 hx
    exact pk_bd y
  have h8 : ((z.take 8).map pk).length = 8 := by simp [hz]
  have h128 : (((z.drop 8).take 128).map pk).length = 128 := by simp [hz]
  refine ⟨(z.take 8).map pk, ((z.drop 8).take 128).map pk, pc, ?_, ⟨h8, hw _⟩, ⟨h128, hw _⟩, by omega⟩
  have e1 : fit1 z 136 = mkZ ((z.take 8).map pk) (((z.drop 8).take 128).map pk) (gz z 136) (gz z 137) := by
    unfold fit1 mkZ
    have d : z.drop 136 = [gz z 136, gz z 137] := by
      have a : 136 < z.length := by omega
      have b : 137 < z.length := by omega
      rw [List.drop_eq_getElem_cons a, List.drop_eq_getElem_cons b, List.drop_of_length_le (by omega)]
      unfold gz
      rw [List.getD_eq_getElem?_getD, List.getD_eq_getElem?_getD, List.getElem?_eq_getElem a, List.getElem?_eq_getElem b]
      rfl
    rw [d, ← List.append_assoc, ← List.map_append]
    congr 2
    rw [show (136 : Nat) = 8 + 128 from rfl, List.take_add]
  unfold fitZ
  rw [e1, mkZ_set_pc h8 h128, mkZ_set_st h8 h128, hpc]

set_option maxRecDepth 100000 in
set_option maxHeartbeats 4000000 in
theorem fit_any (z : List Int) (w : World) (hz : z.length = 138) (hb : ∀ x ∈ z, -9223372036854775808 ≤ x ∧ x ≤ 9223372036854775807) :
    Calls Tryd.prog 24 #[.agg (S z)] w fun e' w' => e' = .returned (.agg (S (fitZ z))) ∧ Below w.heap.size w w' := by
  have zz := zero34
  have hgb : ∀ i, i < 138 → -9223372036854775808 ≤ gz z i ∧ gz z i ≤ 9223372036854775807 := fun i hi => hb _ (by
    unfold gz; rw [List.getD_eq_getElem?_getD, List.getElem?_eq_getElem (by omega)]; exact List.getElem_mem _)
  have HG := hide hgb
  have HPk : Hid (∀ i w', i < 138 → Calls Tryd.prog 15 #[.int .i64 (gz z i), .int .i64 4294967296] w' fun e' w'' => e' = .returned (.int .i64 (pk (gz z i))) ∧ w'' = w') := fun i w' hi => pick_any (gz z i) 4294967296 w' (hgb i hi).1 (hgb i hi).2 (by decide) (by decide)
  have HPp := hide (fun w' => pick_any (gz z 136) 128 w' (hgb 136 (by decide)).1 (hgb 136 (by decide)).2 (by decide) (by decide))
  have HR0 : Hid (RowI (W2 z w) w.heap.size 34 z ∧ isRowB (W2 z w) (w.heap.size + 1) 138 = true ∧ Below w.heap.size w (W2 z w)) := by
    refine ⟨?_, W2_row1 z w, W2_below z w⟩
    unfold RowI W2
    rw [Below.heap_alloc _ _ _ (by rw [size_alloc1]; omega), _root_.Go.heap_alloc_new]
  have HSt := hide (fun k (h : k < 138) => fit1_set (z := z) (k := k) (by omega))
  have HGt := hide (fun k i (h : k ≤ 138) (hi : k ≤ i) => fit1_get (z := z) (k := k) (by omega) hi)
  have HLn := hide (fun k => (fit1_len z k).trans hz)
  clear hgb hb
  go_enter Tryd.func24, Tryd.ntmps24
  go_wp2_with fail
  go_loopw [3] (fun i wr => ∃ k : Nat, k ≤ 8 ∧ i = .int .i64 k ∧ Hid (RowI wr w.heap.size 34 (fit1 z k) ∧ isRowB wr (w.heap.size + 1) 138 = true ∧ Below w.heap.size w wr)) (fun i _ => 8 - (intOf i).toNat)
  case atStart => exact ⟨0, Nat.zero_le _, rfl, by rw [fit1_zero]; exact HR0.out⟩
  case round =>
    obtain ⟨k, hk, rfl, HR⟩ := hrel
    by_cases hlt : k < 8
    · have hlt' : (k : Int) < 8 := by omega
      have ck := HR.out.1.cell k (by rw [HLn.out]; omega)
      rw [HGt.out k k (by omega) (Nat.le_refl _)] at ck
      have fk := HR.out.1.frozen k
      have HP := hide (fun w' => HPk.out k w' (by omega))
      have HN : Hid (RowI (wr.setCell ⟨w.heap.size, k, none⟩ (.int .i64 (pk (gz z k)))) w.heap.size 34 (fit1 z (k + 1)) ∧ isRowB (wr.setCell ⟨w.heap.size, k, none⟩ (.int .i64 (pk (gz z k)))) (w.heap.size + 1) 138 = true ∧ Below w.heap.size w (wr.setCell ⟨w.heap.size, k, none⟩ (.int .i64 (pk (gz z k))))) := by
        refine ⟨?_, ?_, HR.out.2.2.setCell (p := ⟨w.heap.size, k, none⟩) (Nat.le_refl _) _⟩
        · have := HR.out.1.set k (pk (gz z k))
          rw [HSt.out k (by omega)] at this
          exact this
        · rw [isRowB_heap (heap_set_other _ _ (by omega))]
          exact HR.out.2.1
      generalize pk (gz z k) = v at *
      generalize gz z k = x at *
      go_wp2_with fail
      refine (unhide HP _).mono ?_
      rintro e w' ⟨rfl, hw⟩
      obtain rfl := hw.symm
      go_wp2_with fail
      exact ⟨⟨k + 1, by omega, by go_num, HN.out⟩, by simp [intOf]; omega⟩
    · have hlt' : ¬ (k : Int) < 8 := by omega
      have hke : k = 8 := by omega
      subst hke
      obtain ⟨wo, hwo⟩ : ∃ wo, wo = wr := ⟨_, rfl⟩
      subst hwo
      go_wp2_with fail
      go_loopw [4] (fun i wr => ∃ k : Nat, k ≤ 128 ∧ i = .int .i64 k ∧ Hid (RowI wr w.heap.size 34 (fit1 z (8 + k)) ∧ isRowB wr (w.heap.size + 1) 138 = true ∧ Below w.heap.size w wr)) (fun i _ => 128 - (intOf i).toNat)
      case atStart => exact ⟨0, Nat.zero_le _, rfl, HR.out⟩
      case round =>
        obtain ⟨k, hk, rfl, HR2⟩ := hrel
        by_cases hlt : k < 128
        · have hlt' : (k : Int) < 128 := by omega
          have ck := HR2.out.1.cell (8 + k) (by rw [HLn.out]; omega)
          rw [HGt.out (8 + k) (8 + k) (by omega) (Nat.le_refl _)] at ck
          have fk := HR2.out.1.frozen (8 + k)
          have HP := hide (fun w' => HPk.out (8 + k) w' (by omega))
          have HN : Hid (RowI (wr.setCell ⟨w.heap.size, 8 + k, none⟩ (.int .i64 (pk (gz z (8 + k))))) w.heap.size 34 (fit1 z (8 + (k + 1))) ∧ isRowB (wr.setCell ⟨w.heap.size, 8 + k, none⟩ (.int .i64 (pk (gz z (8 + k))))) (w.heap.size + 1) 138 = true ∧ Below w.heap.size w (wr.setCell ⟨w.heap.size, 8 + k, none⟩ (.int .i64 (pk (gz z (8 + k)))))) := by
            refine ⟨?_, ?_, HR2.out.2.2.setCell (p := ⟨w.heap.size, 8 + k, none⟩) (Nat.le_refl _) _⟩
            · have := HR2.out.1.set (8 + k) (pk (gz z (8 + k)))
              rw [HSt.out (8 + k) (by omega)] at this
              exact this
            · rw [isRowB_heap (heap_set_other _ _ (by omega))]
              exact HR2.out.2.1
          generalize pk (gz z (8 + k)) = v at *
          generalize gz z (8 + k) = x at *
          go_wp2_with fail
          refine (unhide HP _).mono ?_
          rintro e w' ⟨rfl, hw⟩
          obtain rfl := hw.symm
          go_wp2_with fail
          exact ⟨⟨k + 1, by omega, by go_num, HN.out⟩, by simp [intOf]; omega⟩
        · have hlt' : ¬ (k : Int) < 128 := by omega
          have hke : k = 128 := by omega
          subst hke
          have ck := HR2.out.1.cell 136 (by rw [HLn.out]; omega)
          rw [HGt.out (8 + 128) 136 (by omega) (by omega)] at ck
          have fk := HR2.out.1.frozen 136
          have cs := HR2.out.1.cell 137 (by rw [HLn.out]; omega)
          have fs := HR2.out.1.frozen 137
          obtain ⟨WF, hWF⟩ : ∃ WF, WF = (wr.setCell ⟨w.heap.size, 136, none⟩ (.int .i64 (pickI (gz z 136) 128))).setCell ⟨w.heap.size, 137, none⟩ (.int .i64 0) := ⟨_, rfl⟩
          have HWF := hide hWF
          have rF : RowI WF w.heap.size 34 (fitZ z) := by
            rw [hWF]
            exact (HR2.out.1.set 136 _).set 137 _
          have bF : Below w.heap.size w WF := by
            rw [hWF]
            exact (HR2.out.2.2.setCell (p := ⟨w.heap.size, 136, none⟩) (Nat.le_refl _) _).setCell (p := ⟨w.heap.size, 137, none⟩) (Nat.le_refl _) _
          have iF : isRowB WF (w.heap.size + 1) 138 = true := by
            rw [hWF, isRowB_heap (heap_set_other _ _ (by omega)), isRowB_heap (heap_set_other _ _ (by omega))]
            exact HR2.out.2.1
          have hzl : (fitZ z).length = 138 := by unfold fitZ; rw [List.length_set, List.length_set, HLn.out]
          have rI := rF.isRow 138 hzl
          have rD := rF.rowD
          obtain ⟨t, hg⟩ := heap_setRow_S iF (S (fitZ z))
          have HGf := hide hg
          have HBf := hide (below_setRow bF (by omega : w.heap.size ≤ w.heap.size + 1) (S (fitZ z)))
          clear hWF rF bF hg
          generalize pickI (gz z 136) 128 = v at *
          generalize gz z 136 = x at *
          generalize gz (fit1 z (8 + 128)) 137 = y at *
          go_wp2_with fail
          refine (unhide HPp _).mono ?_
          rintro e w' ⟨rfl, hw⟩
          obtain rfl := hw.symm
          go_wp2_with (first | (refine wpList_load_S rfl _ rfl w.heap.size rfl (by rw [← HWF.out]; exact rI) (S (fitZ z)) (by rw [← HWF.out]; exact rD) ?_) | (refine wpList_store_S rfl _ _ rfl (w.heap.size + 1) rfl (fitZ z) rfl hzl (by rw [← HWF.out]; exact iF) (WF.setRow (w.heap.size + 1) (S (fitZ z))) (by rw [← HWF.out]) ?_))
          exact bodyPost_ret (v := .agg (S (fitZ z))) (results_cell_row Tryd.results24 _ _ (w.heap.size + 1) t _ _ _ rfl HGf.out Tryd.underlying34 rfl (by rw [size34, S_size, hzl])) rfl ⟨rfl, HBf.out⟩
end Go.Proofs.YtmmflekajbeamaaDoor
