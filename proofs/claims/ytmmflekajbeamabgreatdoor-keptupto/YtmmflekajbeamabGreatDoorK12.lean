/-
  The program's device: a crash (area.crash, device.Crash).
-/
import Derived.Test.YtmmflekajbeamabGreatDoorK11
import Derived.Test.YtmmflekajbeamabGreatDoorK10
namespace Go.Proofs.YtmmflekajbeamabGreatDoor
open Go.RowKit

/-- What a crash leaves of an area's bytes. -/
def crB (b : List UInt8) (n : Nat) (keep : Int) (junk : List UInt8) : List UInt8 :=
  b.take (n + min keep.toNat (b.length - n)) ++ junk.take (b.length - n - min keep.toNat (b.length - n))
theorem slice_to (a : Option Addr) (L c m : Nat) (ha : a = none ∨ ∃ g, a = some ⟨g, 0, none⟩) (hm : m ≤ c) (w : World) : (Instr.slice 121 (.slice a L c) none (some (.int .i64 (m : Int))) none).run Tryz.prog w = .ok (.slice a m c) w := by
  have hz : ∀ w, (sizeOf (Tryz.prog.elem 121)).run Tryz.prog w = .ok 1 w := fun w => by kernel_rfl
  rw [run_slice_h (P := Tryz.prog) w 121 a L c (by kernel_rfl) .i64 (m : Int) (by omega) (by omega), hz]
  simp only [Result.andThen, sliced, Int.toNat_natCast, Nat.sub_zero]
  congr 2
  rcases ha with rfl | ⟨g, rfl⟩
  · simp
  · split
    · rfl
    · simp [Addr.add]
theorem own_tk {w : World} {B L c m : Nat} {a : Option Addr} {b : List UInt8} (h : w.ownsRow B 5 1 (.slice a L c) L (u8C b)) (hm : m ≤ L) : w.ownsRow B 5 1 (.slice a m c) m (u8C (b.take m)) := by
  have hl : b.length = L := by have := h.1; simpa [u8C] using this
  refine ⟨by simp [u8C]; omega, ?_⟩
  rcases h.2 with ⟨e, h0⟩ | ⟨g, cap, cur, e, h1, h2, h3, h4, h5, h6⟩
  · cases e
    have : m = 0 := by omega
    subst this
    exact .inl ⟨rfl, rfl⟩
  · cases e
    refine .inr ⟨g, _, cur, rfl, h1, h2, by omega, h4, h5, ?_⟩
    rw [Nat.mul_one] at h6 ⊢
    rw [show u8C (b.take m) = (u8C b).take m by simp [u8C, List.map_take], ← h6, List.take_take, Nat.min_eq_left hm]
theorem own_cap {w : World} {B L c : Nat} {a : Option Addr} {xs : List Value} {e : TypeId} (h : w.ownsRow B e 1 (.slice a L c) L xs) : L ≤ c ∧ (a = none ∨ ∃ g, a = some ⟨g, 0, none⟩) := by
  rcases h.2 with ⟨q, h0⟩ | ⟨g, cap, cur, q, h1, h2, h3, h4, h5, h6⟩
  · cases q
    exact ⟨Nat.le_refl _, .inl rfl⟩
  · cases q
    exact ⟨h3, .inr ⟨g, rfl⟩⟩

theorem ownB_len (a : Option Addr) (m n c d : Nat) : (Value.slice a m c).ownBlock = (Value.slice a n d).ownBlock := by cases a <;> rfl
theorem cr1 {L N : Nat} (hN : N ≤ L) (hL : L ≤ 1500) : wrap64 ((L : Int) - (N : Int)) = ((L - N : Nat) : Int) := by unfold wrap64; omega
theorem cr2 (keep : Int) : (if keep < 0 then 0 else keep) = ((keep.toNat : Nat) : Int) := by split <;> omega
theorem cr3 (x y : Nat) : (if x < y then (x : Int) else (y : Int)) = ((min y x : Nat) : Int) := by split <;> omega
theorem cr4 {N M : Nat} (h : N + M ≤ 1500) : wrap64 ((N : Int) + (M : Int)) = ((N + M : Nat) : Int) := by unfold wrap64; omega
theorem cr4i {N M : Nat} (h : N + M ≤ 1500) : IntKind.i64.wrap ((N : Int) + (M : Int)) = ((N + M : Nat) : Int) := by
  simp only [IntKind.wrap, IntKind.signed, IntKind.bits]
  simp
  omega
theorem cr5 {L N k : Nat} (hN : N ≤ L) : N + min k (L - N) ≤ L := by omega
theorem cr6 {L N k z : Nat} (hN : N ≤ L) (hL : L ≤ 1500) : N + min k (L - N) + min (L - N - min k (L - N)) z ≤ 1500 := by
  have := cr5 (k := k) hN
  omega
theorem take_min (l : List UInt8) (m z : Nat) (h : l.length = z) : l.take (min m z) = l.take m := by
  subst h
  rcases Nat.le_total m l.length with h | h
  · rw [Nat.min_eq_left h]
  · rw [Nat.min_eq_right h, List.take_of_length_le (Nat.le_refl _), List.take_of_length_le h]
theorem crB_len (b : List UInt8) (n : Nat) (keep : Int) (j : List UInt8) (h : n ≤ b.length) : (crB b n keep j).length = n + min keep.toNat (b.length - n) + min (b.length - n - min keep.toNat (b.length - n)) j.length := by
  unfold crB
  rw [List.length_append, List.length_take, List.length_take, Nat.min_eq_left (cr5 h)]

set_option maxRecDepth 100000 in
set_option maxHeartbeats 4000000 in
theorem areaCrash_any (D : Nat) (d : DvN) (vs : Nat → Value) (n : Nat) (keep : Int) (junk : ByteArray) (w : World) (h : DvAt D d vs w) (hn : n < 2) (hok : d.n n ≤ (d.b n).length) :
    Calls Tryz.prog 78 #[.pointer (some ⟨D, n * 2, none⟩), .int .i64 keep, .string junk] w fun e' w' => e' = .returned (.tuple #[]) ∧ ∃ vs', DvAt D { d with b := upd d.b n (crB (d.b n) (d.n n) keep (lst junk)), n := upd d.n n (crB (d.b n) (d.n n) keep (lst junk)).length } vs' w' ∧ DFr D vs vs' w w' := by
  have HD := hide h
  have hlen := h.len n hn
  have c0 := h.bytes n hn
  have c1 := h.last n hn
  have f0 := h.fz (n * 2)
  have f1 := h.fz (n * 2 + 1)
  have hD1 := h.lt
  obtain ⟨a, c, hv⟩ := owns_len (h.own n hn)
  rw [hv] at c0
  have ho := h.own n hn
  rw [hv] at ho
  have HV := hide hv
  have hcap := own_cap ho
  have hML := cr5 (k := keep.toNat) hok
  have hMj := cr6 (k := keep.toNat) (z := junk.size) hok hlen
  have hcl := crB_len (d.b n) (d.n n) keep (lst junk) hok
  rw [lst_len] at hcl
  have hcr : crB (d.b n) (d.n n) keep (lst junk) = (d.b n).take (d.n n + min keep.toNat ((d.b n).length - d.n n)) ++ (lst junk).take ((d.b n).length - d.n n - min keep.toNat ((d.b n).length - d.n n)) := rfl
  have e1 := cr1 hok hlen
  have e2 := cr2 keep
  have e3 := cr3 ((d.b n).length - d.n n) keep.toNat
  have e4 := cr1 (L := (d.b n).length - d.n n) (N := min keep.toNat ((d.b n).length - d.n n)) (Nat.min_le_right _ _) (Nat.le_trans (Nat.sub_le _ _) hlen)
  have e5 := cr4 (N := d.n n) (M := min keep.toNat ((d.b n).length - d.n n)) (Nat.le_trans hML hlen)
  have e7 := cr4i (N := d.n n) (M := min keep.toNat ((d.b n).length - d.n n)) (Nat.le_trans hML hlen)
  have e6 := cr3 junk.size ((d.b n).length - d.n n - min keep.toNat ((d.b n).length - d.n n))
  have hje : lst (junk.extract 0 (min ((d.b n).length - d.n n - min keep.toNat ((d.b n).length - d.n n)) junk.size)) = (lst junk).take ((d.b n).length - d.n n - min keep.toNat ((d.b n).length - d.n n)) := by
    rw [lst_ext, List.drop_zero, Nat.sub_zero]
    exact take_min _ _ _ (lst_len junk)
  have hjs : (junk.extract 0 (min ((d.b n).length - d.n n - min keep.toNat ((d.b n).length - d.n n)) junk.size)).size = min ((d.b n).length - d.n n - min keep.toNat ((d.b n).length - d.n n)) junk.size := by
    rw [ByteArray.size_extract, Nat.sub_zero, Nat.min_eq_left (Nat.min_le_right _ _)]
  have hj1 : ((min ((d.b n).length - d.n n - min keep.toNat ((d.b n).length - d.n n)) junk.size : Nat) : Int) ≤ (junk.size : Int) := Int.ofNat_le.2 (Nat.min_le_right _ _)
  have HO := hide (own_tk ho hML)
  have hkS := slice_to a (d.b n).length c _ hcap.2 (Nat.le_trans hML hcap.1)
  generalize min ((d.b n).length - d.n n - min keep.toNat ((d.b n).length - d.n n)) junk.size = ju at *
  generalize (d.b n).length - d.n n - min keep.toNat ((d.b n).length - d.n n) = lo at *
  generalize d.n n + min keep.toNat ((d.b n).length - d.n n) = M at *
  generalize min keep.toNat ((d.b n).length - d.n n) = ks at *
  generalize (d.b n).length - d.n n = Lo at *
  have HCr := hide hcr; have HCl := hide hcl; have HJe := hide hje; have HJs := hide hjs; have HMj := hide hMj
  clear hcr hcl hje hjs hok hlen ho hv hcap hML h hMj
  generalize (d.b n).length = L at *
  generalize d.n n = N at *
  generalize keep.toNat = K at *
  go_enter Tryz.func78, Tryz.ntmps78
  go_wp2_with fail
  go_quiet (fail)
  go_upto_region 3 with fail
  refine held_pick [0, 1, 2, 3, 4, 5, 6, 7, 8, 9, 10, 11, 12, 13, 14, 15] [16, 17, 18, 19, 20, 21] 19 (fun w' => w'.cell? ⟨D, n * 2, none⟩ = some (.slice a L c) ∧ w'.cell? ⟨D, n * 2 + 1, none⟩ = some (.int .i64 (N : Int))) (by kernel_rfl) (by kernel_rfl) (fun d _ _ _ _ h => by cases d <;> exact h) ⟨c0, c1⟩ ?_
  iterate 16
    refine wpTakeI_step ?_ rfl rfl ?_ ?_
    rotate_left
    · rintro w' ⟨d0, d1⟩
      go_simp
      rfl
    go_simp
  refine wpTakeI_nil ?_
  refine wpTailI_step rfl rfl (fun K hK => ?_)
  go_simp
  refine hK _ _ (fun _ => ⟨c0, c1⟩) ?_
  clear hK K
  refine wpTailI_step rfl rfl (fun K hK => ?_)
  go_simp
  refine hK _ _ (fun _ => ⟨c0, c1⟩) ?_
  clear hK K
  obtain ⟨inf, hinf, hz, hsz1, hby⟩ := infoU8
  have HInf := hide hinf; have HZ := hide hz; have HSz := hide hsz1; have HBy := hide hby
  clear hinf hz hsz1 hby
  have hms : M + (junk.extract 0 ju).size ≤ 1500 := by rw [HJs.out]; exact HMj.out
  refine wpTailI_step rfl rfl (fun K hK => ?_)
  refine wp_append_str _ _ _ 121 9 rfl (D + 1) 5 inf Tryz.underlying121 Tryz.underlying9 HInf.out HZ.out HSz.out HBy.out (.slice a M c) M (u8C ((d.b n).take M)) rfl HO.out (junk.extract 0 ju) rfl (Nat.le_trans hms (by decide)) (Nat.le_trans hms (by decide)) hD1 ?_
  intro v3 w3 o3 hg3 hw3
  rw [HJs.out] at o3
  obtain ⟨a3, k3, rfl⟩ := owns_len o3
  have hD : w3.heap[D]? = w.heap[D]? := hg3.block D hD1 (fun e => by have := (row_lt HO.out D e.symm).1; omega)
  have c3 := (World.cell?_of_block (a := ⟨D, n * 2, none⟩) hD).trans c0
  have c4 := (World.cell?_of_block (a := ⟨D, n * 2 + 1, none⟩) hD).trans c1
  have f3 := (World.frozen?_of_block (a := ⟨D, n * 2, none⟩) hD).trans f0
  have f4 := (World.frozen?_of_block (a := ⟨D, n * 2 + 1, none⟩) hD).trans f1
  have HO3 := hide o3; have HG3 := hide hg3; have HW3 := hide hw3
  clear o3 hg3 hw3 hD
  refine hK _ _ (fun _ => ⟨c3, c4⟩) ?_
  clear hK K c0 c1 f0 f1
  iterate 3
    refine wpTailI_step rfl rfl (fun K hK => ?_)
    go_simp
    refine hK _ _ (fun h => absurd h (by decide)) ?_
    clear hK K
  refine wpTailI_nil ?_
  go_wp2_with fail
  go_end0
  have o4 : w3.ownsRow (D + 1) 5 1 (.slice a3 (M + ju) k3) (crB (d.b n) N keep (lst junk)).length (u8C (crB (d.b n) N keep (lst junk))) := by
    have o := HO3.out
    rw [strCells_u8, ← u8C_app, HJe.out, ← HCr.out] at o
    rw [HCl.out]
    exact o
  have k := HD.out.setB hn o4 (by rw [HV.out, ownB_len a L M c c]; exact ⟨HG3.out.os, HG3.out.tape, HG3.out.output, HG3.out.size, HG3.out.block⟩) (own_from (by rw [HV.out, ownB_len a L M c c]; exact HW3.out)) (by rw [HCl.out]; exact HMj.out)
  have k2 := k.1.setN hn (crB (d.b n) N keep (lst junk)).length
  have e8 : ((crB (d.b n) N keep (lst junk)).length : Int) = (M : Int) + (ju : Int) := by rw [HCl.out]; rfl
  rw [e8] at k2
  exact ⟨rfl, _, k2.1, k.2.trans k2.2⟩
/-- Behind k areas' crashes. -/
def crN (d : DvN) (keep : Int) (junk : List UInt8) : Nat → DvN
  | 0 => d
  | k + 1 => { crN d keep junk k with b := upd (crN d keep junk k).b k (crB ((crN d keep junk k).b k) ((crN d keep junk k).n k) keep junk), n := upd (crN d keep junk k).n k (crB ((crN d keep junk k).b k) ((crN d keep junk k).n k) keep junk).length }
theorem crN_at (d : DvN) (keep : Int) (junk : List UInt8) : ∀ k i, k ≤ i → (crN d keep junk k).b i = d.b i ∧ (crN d keep junk k).n i = d.n i
  | 0, _, _ => ⟨rfl, rfl⟩
  | k + 1, i, h => by
    have q := crN_at d keep junk k i (by omega)
    unfold crN
    exact ⟨(upd_ne _ _ _ _ (by omega)).trans q.1, (upd_ne _ _ _ _ (by omega)).trans q.2⟩
theorem crN_rest (d : DvN) (keep : Int) (junk : List UInt8) : ∀ k, (crN d keep junk k).tr = d.tr ∧ (crN d keep junk k).wk = d.wk
  | 0 => ⟨rfl, rfl⟩
  | k + 1 => crN_rest d keep junk k
def DvOK (d : DvN) : Prop := ∀ i, i < 2 → d.n i ≤ (d.b i).length
def dCrash (d : DvN) (keep : Int) (junk : List UInt8) : DvN := { crN d keep junk 2 with tr := 0, wk := wrap64 (d.wk + 1) }
theorem DvAt.setWk {D : Nat} {d : DvN} {vs : Nat → Value} {w : World} (h : DvAt D d vs w) (t : Int) : DvAt D { d with wk := t } vs (w.setCell ⟨D, 5, none⟩ (.int .i64 t)) ∧ DFr D vs vs w (w.setCell ⟨D, 5, none⟩ (.int .i64 t)) := by
  refine ⟨⟨by rw [set_size]; exact h.lt, fun j => by rw [World.frozen?_setCell]; exact h.fz j, fun i hi => (cell_off (by omega)).trans (h.bytes i hi), fun i hi => (cell_off (by omega)).trans (h.last i hi), (cell_off (by decide)).trans h.tr, World.cell?_setCell_same _ _ _ h.wk, fun i hi => ownsRow_keep (h.own i hi) (fun g hg => set_other (own_ne h hi hg).1), h.len, h.sep, h.trb⟩, ⟨(Below.refl _ _).setCell (p := ⟨D, 5, none⟩) (Nat.le_refl _) _, fun g _ hn _ => set_other hn, fun _ _ _ hg => .inl hg⟩⟩

set_option maxRecDepth 100000 in
set_option maxHeartbeats 4000000 in
theorem dCrash_any (D : Nat) (d : DvN) (vs : Nat → Value) (keep : Int) (junk : ByteArray) (w : World) (h : DvAt D d vs w) (hok : DvOK d) :
    Calls Tryz.prog 49 #[.pointer (some ⟨D, 0, none⟩), .int .i64 keep, .string junk] w fun e' w' => e' = .returned (.tuple #[]) ∧ ∃ vs', DvAt D (dCrash d keep (lst junk)) vs' w' ∧ DFr D vs vs' w w' := by
  have HH := hide h; have HOk := hide hok
  clear h hok
  go_enter Tryz.func49, Tryz.ntmps49
  go_wp2_with fail
  go_loopw [9] (fun i wr => ∃ k : Nat, k ≤ 2 ∧ i = .int .i64 k ∧ Hid (∃ vs', DvAt D (crN d keep (lst junk) k) vs' wr ∧ DFr D vs vs' w wr)) (fun i _ => 2 - (intOf i).toNat)
  case atStart => exact ⟨0, Nat.zero_le _, rfl, ⟨vs, HH.out, DFr.refl _ _ _⟩⟩
  case round =>
    obtain ⟨k, hk, rfl, HI⟩ := hrel
    obtain ⟨vk, hI⟩ := HI.out
    have HIv := hide hI
    by_cases hlt : k < 2
    · have hlt' : (k : Int) < 2 := by omega
      have hk0 : ¬ (k : Int) < 0 := by omega
      have HC := hide (areaCrash_any D (crN d keep (lst junk) k) vk k keep junk wr hI.1 hlt (by rw [(crN_at d keep (lst junk) k k (Nat.le_refl _)).1, (crN_at d keep (lst junk) k k (Nat.le_refl _)).2]; exact HOk.out k hlt))
      clear hI HI
      go_wp2_with fail
      refine (unhide HC).mono ?_
      rintro e w1 ⟨rfl, v1, h1, f1⟩
      have HN : Hid (∃ vs', DvAt D (crN d keep (lst junk) (k + 1)) vs' w1 ∧ DFr D vs vs' w w1) := ⟨v1, h1, HIv.out.2.trans f1⟩
      clear h1 f1 HC
      go_wp2_with fail
      exact ⟨⟨k + 1, by omega, by go_num, HN⟩, by simp [intOf]; omega⟩
    · have hlt' : ¬ (k : Int) < 2 := by omega
      obtain rfl : k = 2 := by omega
      have c4 := hI.1.tr
      have c5 := hI.1.wk
      have f4 := hI.1.fz 4
      have f5 := hI.1.fz 5
      have HS := hide (hI.1.setTr 0 (by decide))
      have HS2 := hide (HS.out.1.setWk (wrap64 (d.wk + 1)))
      rw [(crN_rest d keep (lst junk) 2).2] at c5
      clear hI HI
      go_wp2_with fail
      go_end0
      exact ⟨rfl, vk, HS2.out.1, HIv.out.2.trans (HS.out.2.trans HS2.out.2)⟩
end Go.Proofs.YtmmflekajbeamabGreatDoor
