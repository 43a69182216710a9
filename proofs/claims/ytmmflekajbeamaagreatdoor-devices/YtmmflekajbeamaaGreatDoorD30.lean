/-
  Frames: an Entry frame is taken (takeEntry).
  The law's book of blocks and plans: a list that came out is written full of marks, appended to, and kept (keepPlans).
  The law's book of plans: its looks (lookPlans, looks).
-/
import Derived.Test.YtmmflekajbeamaaGreatDoorD26
import Derived.Test.YtmmflekajbeamaaGreatDoorD23
import Derived.Test.YtmmflekajbeamaaGreatDoorD16
import Derived.Deep.AppendLies
import Derived.Deep.MidRow
import Derived.Test.YtmmflekajbeamaaGreatDoorD29
namespace Go.Proofs.YtmmflekajbeamaaGreatDoor
open Go.RowKit

def rEntry (a : ArN) (q : List UInt8) : Option ArN := if q ≠ [] ∧ 1 + 4 * (q.getD 0 0).toNat ≤ q.length ∧ blkB (bya ((q.drop 1).take (4 * (q.getD 0 0).toNat))) = true then some ⟨a.gen, a.whole, a.good + (q.length + 8), a.list ++ [((q.drop 1).take (4 * (q.getD 0 0).toNat), q.drop (1 + 4 * (q.getD 0 0).toNat))]⟩ else none
theorem infoKn : ∃ i, Tryz.prog.info? 127 = some i ∧ i.zero = some (.agg #[.string ⟨#[]⟩, .string ⟨#[]⟩]) ∧ i.size = 2 ∧ i.bytes = 32 := by
  have h : (Tryz.prog.info? 127).map (fun i => (i.zero, i.size, i.bytes)) = some (some (.agg #[.string ⟨#[]⟩, .string ⟨#[]⟩]), 2, 32) := by kernel_rfl
  cases hq : Tryz.prog.info? 127 with
  | none => rw [hq] at h; cases h
  | some i =>
    rw [hq] at h
    simp only [Option.map_some, Option.some.injEq, Prod.mk.injEq] at h
    exact ⟨i, rfl, h.1, h.2.1, h.2.2⟩
theorem ext_bh (D : ByteArray) (c : Nat) (h : 1 + c ≤ D.size) : lst ((D.extract 1 D.size).extract 0 c) = ((lst D).drop 1).take c ∧ lst ((D.extract 1 D.size).extract c (D.extract 1 D.size).size) = (lst D).drop (1 + c) := by
  have hz : (D.extract 1 D.size).size = D.size - 1 := by rw [ByteArray.size_extract]; omega
  refine ⟨?_, ?_⟩
  · rw [lst_ext, lst_ext, List.drop_zero, Nat.sub_zero, List.take_take, Nat.min_eq_left (by omega)]
  · rw [lst_ext, lst_ext, hz, List.drop_take, List.drop_drop, List.take_of_length_le (by rw [List.length_take, List.length_drop, lst_len]; omega), List.take_of_length_le (by rw [List.length_drop, lst_len]; omega)]

set_option maxRecDepth 100000 in
set_option maxHeartbeats 4000000 in
theorem takeEntry_any (A : Nat) (a : ArN) (v : Value) (K : Nat) (q : List UInt8) (n : Int) (w : World) (h : ArAt A a v w) (ht : Tab w) (hq2 : q.length ≤ 200) (hal : a.list.length ≤ 2000000) :
    Calls Tryz.prog 225 #[.pointer (some ⟨A, 0, none⟩), .agg #[.int .i64 (K : Int), .string (bya q), .int .i64 n]] w (TkPost A a v (rEntry a q) w) := by
  obtain ⟨inf, hinf, hzi, hsz1, hby⟩ := infoKn
  have HInf := hide hinf; have HZi := hide hzi; have HSz := hide hsz1; have HBy := hide hby
  clear hinf hzi hsz1 hby
  have hA := h.lt
  have HNo : Hid (∀ w', Below w.heap.size w w' → rEntry a q = none → TkPost A a v (rEntry a q) w (.returned (.bool false)) w') := fun w' hb hr => ⟨TkFr.of_above hA hb, .inr ⟨hr, rfl, h.above hb⟩⟩
  have HR : Hid (¬ (q ≠ [] ∧ 1 + 4 * (q.getD 0 0).toNat ≤ q.length ∧ blkB (bya ((q.drop 1).take (4 * (q.getD 0 0).toNat))) = true) → rEntry a q = none) := fun hc => if_neg hc
  have HY : Hid ((q ≠ [] ∧ 1 + 4 * (q.getD 0 0).toNat ≤ q.length ∧ blkB (bya ((q.drop 1).take (4 * (q.getD 0 0).toNat))) = true) → rEntry a q = some ⟨a.gen, a.whole, a.good + (q.length + 8), a.list ++ [((q.drop 1).take (4 * (q.getD 0 0).toNat), q.drop (1 + 4 * (q.getD 0 0).toNat))]⟩) := fun hc => if_pos hc
  have hzq : (bya q).size = q.length := bya_size q
  have hc0 : (q.getD 0 0).toNat = bt (bya q) 0 := by rw [← bya_get]; rfl
  have hlD : lst (bya q) = q := lst_bya q
  have hqbT : q = [] → ((bya q).toList == ([] : List UInt8)) = true := fun e => by rw [e, ByteArray.toList_eq, bya_list]; rfl
  have hqbF : q ≠ [] → ((bya q).toList == ([] : List UInt8)) = false := bya_ne
  rw [hc0] at HR HY
  generalize bya q = D at *
  generalize rEntry a q = R at *
  have HB0 := hide ((Below.refl w.heap.size w).alloc (Nat.le_refl _) (.cells #[.int .i64 (K : Int), .string D, .int .i64 n] 236))
  by_cases hqe : q = []
  · have HN := hide (HR.out (fun hh => hh.1 hqe))
    have hqb := hqbT hqe
    clear hlD hzq
    go_enter Tryz.func225, Tryz.ntmps225
    go_wp2_with fail
    go_ret
    exact HNo.out _ HB0.out HN.out
  have hqb := hqbF hqe
  have hq1 : 1 ≤ q.length := by cases q with | nil => exact absurd rfl hqe | cons _ _ => simp
  have hD0 : 0 < D.size := by omega
  have hg0 := bt_get D 0 hD0
  have hbl := bt_lt D 0
  have hbz : (D.extract 1 D.size).size = q.length - 1 := by rw [ByteArray.size_extract]; omega
  have v1 : IntKind.i64.wrap (bt D 0 : Int) = (bt D 0 : Int) := by rw [IntKind.wrap_i64]; omega
  have hD1 : (1 : Int) ≤ (D.size : Int) := by omega
  by_cases hcl : q.length < 1 + 4 * bt D 0
  · have HN := hide (HR.out (fun hh => by have := hh.2.1; omega))
    have hgt : (((D.extract 1 D.size).size : Nat) : Int) < (bt D 0 : Int) * 4 := by omega
    have HZ := hide hbz; have HZq := hide hzq
    clear hbz hzq hc0 hlD hqbT hqbF HY
    generalize bt D 0 = c at *
    go_enter Tryz.func225, Tryz.ntmps225
    go_upto_region 3 with fail
    go_quiet (fail)
    have HB1 := hide (below_drewN HB0.out nq)
    generalize (w.alloc (.cells #[.int .i64 (K : Int), .string D, .int .i64 n] 236)).drewN nq = w1 at *
    generalize D.extract 1 D.size = Bh at *
    go_wp2_with fail
    go_ret
    exact HNo.out _ HB1.out HN.out
  have hle : ¬ (((D.extract 1 D.size).size : Nat) : Int) < (bt D 0 : Int) * 4 := by omega
  have hle2 : (bt D 0 : Int) * 4 ≤ (((D.extract 1 D.size).size : Nat) : Int) := by omega
  have v2 : ((bt D 0 : Int) * 4).toNat = 4 * bt D 0 := by omega
  have v3 : (0 : Int) ≤ (bt D 0 : Int) * 4 := by omega
  obtain ⟨x1, x2⟩ := ext_bh D (4 * bt D 0) (by omega)
  rw [hlD] at x1 x2
  have hWz : ((D.extract 1 D.size).extract 0 (4 * bt D 0)).size ≤ maxLen := by rw [ByteArray.size_extract]; unfold maxLen; omega
  have HRd := hide (fun w' (hb : Below w.heap.size w w') => blkRead_any ((D.extract 1 D.size).extract 0 (4 * bt D 0)) w' (ht.below ht.pos hb) hWz)
  have hPz : ((D.extract 1 D.size).extract (4 * bt D 0) (D.extract 1 D.size).size).size ≤ 2000000 := by rw [ByteArray.size_extract]; omega
  have HCl := hide (fun w' => clone_any ((D.extract 1 D.size).extract (4 * bt D 0) (D.extract 1 D.size).size) w' hPz)
  have HZ := hide hbz; have HZq := hide hzq; have HX1 := hide x1; have HX2 := hide x2
  have HQe := hide hqe; have HCl2 := hide hcl
  clear hbz hzq hc0 hlD hqbT hqbF x1 x2 hqe hcl
  generalize bt D 0 = c at *
  go_enter Tryz.func225, Tryz.ntmps225
  go_upto_region 3 with fail
  go_quiet (fail)
  have HB1 := hide (below_drewN HB0.out nq)
  generalize (w.alloc (.cells #[.int .i64 (K : Int), .string D, .int .i64 n] 236)).drewN nq = w1 at *
  generalize D.extract 1 D.size = Bh at *
  go_wp2_with fail
  refine (unhide HRd _ HB1.out).mono ?_
  rintro e w2 ⟨hb2, ⟨hok, rfl⟩ | ⟨hno, rfl⟩⟩
  rotate_left
  · have HN : Hid (R = none) := HR.out (fun hh => hno (by
      have := (blkB_iff _).1 hh.2.2
      rw [← HX1.out, bya_lst] at this
      exact this))
    have HB2 : Hid (Below w.heap.size w w2) := HB1.out.trans (hb2.mono HB1.out.size)
    have HB3 : Hid (Below w.heap.size w (w2.alloc (.cells (S (wdZ [])) 187))) := HB2.out.alloc HB2.out.size _
    have z9 := zero9
    clear hb2 hno HRd HCl
    go_wp2_with (refine wpList_storeR size9 rfl _ _ rfl w2.heap.size rfl (wdZ []) rfl rfl (by rw [isRowB_alloc_at _ _ _ _ _ rfl]; rfl) _ (setRow_alloc_at _ _ _ _ _ rfl) ?_)
    go_ret
    exact HNo.out _ HB3.out HN.out
  have hwl : (blkL (Bh.extract 0 (4 * c)) ((Bh.extract 0 (4 * c)).size / 4)).length ≤ 8 := by rw [blkL_len]; have := hok.2.1; omega
  have hwb := blkL_bd (Bh.extract 0 (4 * c)) ((Bh.extract 0 (4 * c)).size / 4)
  have HTx := hide (fun w' => wdText_any (blkL (Bh.extract 0 (4 * c)) ((Bh.extract 0 (4 * c)).size / 4)) w' hwl hwb)
  rw [wds_lst hok.2.2.1] at HTx
  have hzl := wdZ_len hwl
  have HRs : Hid (R = some ⟨a.gen, a.whole, a.good + (q.length + 8), a.list ++ [(lst (Bh.extract 0 (4 * c)), lst (Bh.extract (4 * c) Bh.size))]⟩) := by
    unfold Hid
    rw [HX1.out, HX2.out]
    refine HY.out ⟨HQe.out, by have := HCl2.out; omega, (blkB_iff _).2 ?_⟩
    rw [← HX1.out, bya_lst]
    exact hok
  have HB2 : Hid (Below w.heap.size w w2) := HB1.out.trans (hb2.mono HB1.out.size)
  have HB3 : Hid (Below w.heap.size w (w2.alloc (.cells (S (wdZ (blkL (Bh.extract 0 (4 * c)) ((Bh.extract 0 (4 * c)).size / 4)))) 187))) := HB2.out.alloc HB2.out.size _
  have HWd : Hid (RowI (w2.alloc (.cells (S (wdZ (blkL (Bh.extract 0 (4 * c)) ((Bh.extract 0 (4 * c)).size / 4)))) 187)) w2.heap.size 187 (wdZ (blkL (Bh.extract 0 (4 * c)) ((Bh.extract 0 (4 * c)).size / 4)))) := _root_.Go.heap_alloc_new w2 _
  have z9 := zero9
  have hz2 := HB2.out.size
  clear hb2 hok HRd HR HY HX1 HX2 hwl hwb
  generalize wdZ (blkL (Bh.extract 0 (4 * c)) ((Bh.extract 0 (4 * c)).size / 4)) = zw at *
  go_wp2_with (refine wpList_storeR size9 rfl _ _ rfl w2.heap.size rfl zw rfl hzl (by rw [isRowB_alloc_at _ _ _ _ _ rfl]; rfl) _ (setRow_alloc_at _ _ _ _ _ rfl) ?_)
  refine (unhide HCl _).mono ?_
  rintro e w4 ⟨rfl, hb4⟩
  have hz4 := hb4.size
  rw [size_alloc1] at hz4
  have HB4 : Hid (Below w.heap.size w w4) := HB3.out.trans (hb4.mono (by rw [size_alloc1]; omega))
  have a4 := h.above HB4.out
  have r4 := HWd.out.keep (hb4.block _ (by rw [size_alloc1]; omega))
  have HR4 := hide r4
  have c3 : w4.cell? ⟨A, 3, none⟩ = some v := a4.cell 3
  have HA4 := hide a4
  clear hb4 a4 r4 HCl
  go_upto_region 10 with fail
  refine held_pick [0, 1, 2, 3, 4, 5, 7] [6, 8, 9, 10, 11, 12, 13] 11 (fun w' => w'.cell? ⟨A, 3, none⟩ = some v ∧ RowI w' w2.heap.size 187 zw) (by kernel_rfl) (by kernel_rfl) (fun d _ _ _ _ h => by cases d <;> exact h) ⟨c3, HR4.out⟩ ?_
  iterate 5
    refine wpTakeI_step ?_ rfl rfl ?_ ?_
    rotate_left
    · rintro w' ⟨d0, d1⟩
      go_simp
      rfl
    go_simp
  refine ⟨_, .agg (S zw), rfl, yieldsIf_load_mid rfl 187 _ rfl w2.heap.size 0 rfl (zw.map (Value.int .i64)) _ (fun w' hS => by have := range_row hS.2 0 9 (by omega); rw [List.drop_zero, List.take_of_length_le (by omega)] at this; exact this) Tryz.underlying187 rfl (by rw [size9, List.length_map, hzl]), ?_⟩
  go_simp
  refine wpTakeI_step ?_ rfl rfl ?_ ?_
  rotate_left
  · rintro w' ⟨d0, d1⟩
    go_simp
    rfl
  go_simp
  refine wpTakeI_nil ?_
  refine wpTailI_step rfl rfl (fun K hK => ?_)
  go_simp
  refine (unhide HTx _).mono ?_
  rintro e w5 ⟨rfl, hb5⟩
  rw [bya_lst]
  have HB5 : Hid (Below w4.heap.size w4 w5) := (show Below w4.heap.size w4 w4.drew from (Below.refl _ w4).drew).trans hb5
  have hA4 : A < w4.heap.size := by have := HB4.out.size; omega
  have a5 := HA4.out.above HB5.out
  have HA5 := hide a5
  have c5 : w5.cell? ⟨A, 3, none⟩ = some v := a5.cell 3
  have HR5 := hide (HR4.out.keep (HB5.out.block _ (by omega)))
  refine hK _ _ (fun _ => ⟨c5, HR5.out⟩) ?_
  clear hK K hb5 a5 HTx
  refine wpTailI_step rfl rfl (fun K hK => ?_)
  go_simp
  refine hK _ _ (fun _ => ⟨c5, HR5.out⟩) ?_
  clear hK K
  have hz5 := HB5.out.size
  have HOv := hide h.list
  refine wpTailI_step rfl rfl (fun K hK => ?_)
  go_simp
  refine hK _ _ (fun _ => ⟨(World.cell?_of_block (Below.heap_alloc w5 _ A (by omega))).trans c5, HR5.out.keep (Below.heap_alloc w5 _ _ (by omega))⟩) ?_
  clear hK K
  refine wpTailI_step rfl rfl (fun K hK => ?_)
  refine wp_append_lies _ _ _ 57 rfl (A + 1) 127 inf _ 2 32 Tryz.underlying57 HInf.out HZi.out HSz.out HBy.out rfl (by decide) v a.list.length (knCs a.list) rfl (HA5.out.list.alloc _) ⟨w5.heap.size, 0, none⟩ 1 1 [.string (Bh.extract 0 (4 * c)), .string (Bh.extract (4 * c) Bh.size)] rfl rfl (World.news_of_block (_root_.Go.heap_alloc_new w5 _)) (fun u hu => by simp at hu; rcases hu with rfl | rfl <;> rfl) (by decide) (by unfold maxLen; omega) (by omega) (by show A + 1 ≤ (w5.alloc _).heap.size; rw [size_alloc1]; omega) (w5.heap.size + 1) (by show (w5.alloc _).heap.size = _; rw [size_alloc1]) ?_
  intro g cap w6 hown6 hgr hat hlt6
  have hA6 : w6.heap[A]? = w5.heap[A]? := (hgr.block A (by show A < (w5.alloc _).heap.size; rw [size_alloc1]; omega) (fun e => by have := (row_lt HOv.out A e.symm).1; omega)).trans (Below.heap_alloc w5 _ A (by omega))
  have hW6 : w6.heap[w2.heap.size]? = w5.heap[w2.heap.size]? := (hgr.block _ (by show w2.heap.size < (w5.alloc _).heap.size; rw [size_alloc1]; omega) (fun e => by have := (row_lt HOv.out _ e.symm).2; omega)).trans (Below.heap_alloc w5 _ _ (by omega))
  have c6 : w6.cell? ⟨A, 3, none⟩ = some v := (World.cell?_of_block hA6).trans c5
  have f6 : w6.frozen? ⟨A, 3, none⟩ = false := (World.frozen?_of_block hA6).trans (HA5.out.frozen 3)
  refine hK _ _ (fun _ => ⟨c6, HR5.out.keep hW6⟩) ?_
  have HO6 := hide hown6; have HGr := hide hgr; have HAt := hide hat; have HA6 := hide hA6; have HLt := hide hlt6
  clear hown6 hgr hat hK K hA6 hW6 hlt6
  refine wpTailI_step rfl rfl (fun K hK => ?_)
  go_simp
  refine hK _ _ (fun h => absurd h (by decide)) ?_
  clear hK K
  refine wpTailI_step rfl rfl (fun K hK => ?_)
  go_simp
  refine hK _ _ (fun h => absurd h (by decide)) ?_
  clear hK K
  refine wpTailI_step rfl rfl (fun K hK => ?_)
  go_simp
  refine hK _ _ (fun h => absurd h (by decide)) ?_
  clear hK K
  refine wpTailI_nil ?_
  go_wp2_with fail
  go_ret
  have hzz : w.heap.size ≤ w4.heap.size := HB4.out.size
  have B5 : Below w.heap.size w w5 := HB4.out.trans (HB5.out.mono hzz)
  have BA : Below A w w6 := ((B5.mono (Nat.le_of_lt hA)).alloc (by omega) _).grown HGr.out (by rw [size_alloc1]; omega) (fun q hq => by have := (row_lt HOv.out q hq).1; omega)
  refine ⟨⟨BA.setCell (p := ⟨A, 3, none⟩) (Nat.le_refl _) _, fun g' hg hn ho => ?_⟩, .inl ⟨_, .slice (some ⟨g, 0, none⟩) (a.list.length + 1) cap, HRs.out, rfl, ⟨?_, ?_⟩, fun g' hg' => ?_⟩⟩
  · refine (heap_set_other _ _ hn).trans (((HGr.out.block g' (by rw [size_alloc1]; omega) (fun e => ho e.symm)).trans (Below.heap_alloc w5 _ _ (by omega))).trans (B5.block g' hg))
  · have hcA : w6.heap[A]? = some (.cells (arV a.gen a.whole a.good v) 175 (0, 0)) := HA6.out.trans HA5.out.cells
    obtain ⟨hlt, hk⟩ := Array.getElem?_eq_some_iff.1 hcA
    show (w6.heap.modify A _)[A]? = _
    rw [Array.getElem?_eq_getElem (by rw [Array.size_modify]; exact hlt), Array.getElem_modify_self, hk]
    rfl
  · have e : knCs (a.list ++ [(lst (Bh.extract 0 (4 * c)), lst (Bh.extract (4 * c) Bh.size))]) = knCs a.list ++ [.string (Bh.extract 0 (4 * c)), .string (Bh.extract (4 * c) Bh.size)] := by rw [knCs_snoc, bya_lst, bya_lst]
    show World.ownsRow _ _ _ _ _ (a.list ++ [_]).length (knCs (a.list ++ [_]))
    rw [e, List.length_append]
    refine ownsRow_keep HO6.out (fun g' hg' => heap_set_other _ _ (fun e => ?_))
    have := (row_lt HO6.out g' hg').1
    omega
  · have hgg : g = g' := by simpa [Value.ownBlock] using hg'
    subst hgg
    rcases HAt.out with h | h
    · exact .inl h
    · exact .inr (by omega)
end Go.Proofs.YtmmflekajbeamaaGreatDoor

namespace Go.Proofs.YtmmflekajbeamaaGreatDoor
open Go.RowKit

def kmD (D : ByteArray) : List Value := [.string MARK, .string D]
theorem kmD_one (D : ByteArray) : ∀ u ∈ kmD D, u.oneCell' = true := fun u hu => by simp [kmD] at hu; rcases hu with rfl | rfl <;> rfl
theorem kfill (D : ByteArray) (xs : List Value) (n k : Nat) (hl : xs.length = n * 2) (hk : k < n) :
    ((gks (kmD D) k ++ xs.drop (k * 2)).set (k * 2) (.string MARK)).set (k * 2 + 1) (.string D) = gks (kmD D) (k + 1) ++ xs.drop ((k + 1) * 2) := by
  have hg : (gks (kmD D) k).length = k * 2 := gks_len rfl k
  obtain ⟨a, b, r, hr⟩ : ∃ a b r, xs.drop (k * 2) = a :: b :: r := by
    have h5 : 2 ≤ (xs.drop (k * 2)).length := by rw [List.length_drop]; omega
    match xs.drop (k * 2), h5 with
    | a :: b :: r, _ => exact ⟨a, b, r, rfl⟩
  have hr2 : xs.drop ((k + 1) * 2) = r := by
    rw [show (k + 1) * 2 = k * 2 + 2 by omega, ← List.drop_drop, hr]
    rfl
  rw [hr, hr2, ← gks_add k 1, show gks (kmD D) 1 = kmD D from by simp [gks]]
  generalize gks (kmD D) k = G at hg ⊢
  subst_vars
  rw [← hg]
  rw [List.set_append_right _ _ (by omega), List.set_append_right _ _ (by omega), List.append_assoc]
  simp only [Nat.sub_self, Nat.add_sub_cancel_left]
  rfl
theorem infoSlK : ∃ i, Tryz.prog.info? 57 = some i ∧ i.zero = some (.slice none 0 0) ∧ i.size = 1 ∧ i.bytes = 24 := by
  have h : (Tryz.prog.info? 57).map (fun i => (i.zero, i.size, i.bytes)) = some (some (.slice none 0 0), 1, 24) := by kernel_rfl
  cases hq : Tryz.prog.info? 57 with
  | none => rw [hq] at h; cases h
  | some i =>
    rw [hq] at h
    simp only [Option.map_some, Option.some.injEq, Prod.mk.injEq] at h
    exact ⟨i, rfl, h.1, h.2.1, h.2.2⟩
theorem kbox_cells {D : ByteArray} {w : World} {b : Nat} (h : BoxG 127 (kmD D) w b) : w.cell? ⟨b, 0, none⟩ = some (.string MARK) ∧ w.cell? ⟨b, 1, none⟩ = some (.string D) := ⟨h.cell 0, h.cell 1⟩

set_option maxRecDepth 100000 in
set_option maxHeartbeats 8000000 in
theorem keepPlans_any (N q : Nat) (vs : List Value) (vi : Value) (w0 w : World) (h0 : BookF 2 57 127 2 kmq N vs vi w0) (hb : Below w0.heap.size w0 w) (hq : vs.length = 4 * q) (hq2 : q ≤ 100) (l : Value) (ps : List (List UInt8 × List UInt8)) (hl : w.ownsRow w0.heap.size 127 2 l ps.length (knCs ps)) (hpl : ps.length ≤ 1048576) :
    Calls Tryz.prog 82 #[.pointer (some ⟨N, 0, none⟩), l] w fun e' w' => e' = .returned (.tuple #[]) ∧ (∃ vs' vi', BookF 2 57 127 2 kmq N vs' vi' w' ∧ vs'.length = 4 * (q + 1)) ∧ Below N w0 w' := by
  have hW := h0.above hb
  obtain ⟨ia, ic, rfl⟩ := owns_len h0.row
  obtain ⟨la, lc, rfl⟩ := owns_len hl
  have c0 := hW.cf
  have hNw := hW.nlt
  have hmk : ((vs.length : Nat) : Int) ≤ 100000 := by omega
  have HMk := hide (fun w' => markPlan_any vs.length w' (by omega))
  obtain ⟨Dm, hDm⟩ : ∃ Dm, Dm = bya (numB 8 vs.length) := ⟨_, rfl⟩
  rw [← hDm] at HMk
  have HPm : Hid (kmq q = kmD Dm) := by unfold Hid kmq kmk kmD; rw [hDm, hq]
  have HQ := hide hq
  have hvl : vs.length ≤ 400 := by omega
  have H0 := hide h0; have HB := hide hb; have HL := hide hl
  have hBw := hb.size
  obtain ⟨inf, hinf, hz, hsz1, hby⟩ := infoSlK
  have HInf := hide hinf; have HZ := hide hz; have HSz := hide hsz1; have HBy := hide hby
  clear hinf hz hsz1 hby
  obtain ⟨inp, hinf, hz, hsz1, hby⟩ := infoKn
  have HInp := hide hinf; have HZp := hide hz; have HSp := hide hsz1; have HByp := hide hby
  have hxl : (knCs ps).length = ps.length * 2 := flat_len (fun x : List UInt8 × List UInt8 => [Value.string (bya x.1), Value.string (bya x.2)]) 2 (fun _ => rfl) ps
  clear h0 hb hl hW hDm hq hinf hz hsz1 hby
  go_enter Tryz.func82, Tryz.ntmps82
  go_wp2_with fail
  refine (unhide HMk _).mono ?_
  rintro e wa ⟨rfl, hba⟩
  obtain ⟨W, hW⟩ : ∃ W, W = wa.alloc (.cells #[.string MARK, .string Dm] 127) := ⟨_, rfl⟩
  have hbW : Below w.heap.size w W := by rw [hW]; exact hba.alloc hba.size _
  have HBx : Hid (BoxG 127 (kmD Dm) W wa.heap.size) := by unfold Hid; rw [hW]; exact _root_.Go.heap_alloc_new wa _
  have HBW := hide hbW
  have HWe := hide hW
  have hsa := hba.size
  have hsW : W.heap.size = wa.heap.size + 1 := by rw [hW, size_alloc1]
  have HLW := hide (own_grow HL.out hbW)
  clear hba hbW hW
  go_wp2_with fail
  rw [← HWe.out]
  go_loopw [5] (fun i wr => ∃ k : Nat, k ≤ ps.length ∧ i = .int .i64 k ∧ wr.ownsRow w0.heap.size 127 2 (.slice la ps.length lc) ps.length (gks (kmD Dm) k ++ (knCs ps).drop (k * 2)) ∧ KG 127 2 (kmD Dm) w0.heap.size W wr) (fun i _ => ps.length - (intOf i).toNat)
  case atStart => exact ⟨0, Nat.zero_le _, rfl, HLW.out, KG.refl _ _⟩
  case round =>
    obtain ⟨k, hk, rfl, hown, hkm⟩ := hrel
    have HO := hide hown; have HKm := hide hkm
    have hbx := HBx.out.kg rfl hkm
    obtain ⟨b0, b1⟩ := kbox_cells hbx
    by_cases hlt : k < ps.length
    · have hlt' : (k : Int) < (ps.length : Int) := by omega
      obtain ⟨g, cc, hf, _, hgl⟩ := hown.form (by omega)
      cases hf
      have hcell : ∀ j, j < 2 → ∃ u, wr.cell? ⟨g, k * 2 + j, none⟩ = some u := fun j hj => by
        rw [hown.cellAt (k * 2 + j) (by omega)]
        have : k * 2 + j < (gks (kmD Dm) k ++ (knCs ps).drop (k * 2)).length := by rw [List.length_append, gks_len rfl, List.length_drop, hxl]; show _ < k * 2 + _; omega
        exact ⟨_, List.getElem?_eq_getElem this⟩
      obtain ⟨u0, h0⟩ := hcell 0 (by decide)
      obtain ⟨u1, h1⟩ := hcell 1 (by decide)
      have h0' : wr.cell? ⟨g, k * 2, none⟩ = some u0 := h0
      have f0 := hown.frozenAt (k * 2); have f1 := hown.frozenAt (k * 2 + 1)
      clear hown hkm h0 hbx hcell
      go_wp2_with fail
      have s1 := HO.out.stored (k * 2) (.string MARK)
      have s2 := s1.1.stored (k * 2 + 1) (.string Dm)
      have hst := s2.1
      rw [kfill Dm (knCs ps) ps.length k hxl hlt] at hst
      have q1 := KG.store (mc := kmD Dm) HO.out (k * 2) (u := .string MARK) (by rw [show k * 2 % 2 = 0 by omega]; rfl)
      have q2 := KG.store (mc := kmD Dm) s1.1 (k * 2 + 1) (u := .string Dm) (by rw [show (k * 2 + 1) % 2 = 1 by omega]; rfl)
      exact ⟨⟨k + 1, by omega, by go_num, hst, (HKm.out.trans q1).trans q2⟩, by simp [intOf]; omega⟩
    · have hkn : k = ps.length := by omega
      subst hkn
      have hlt' : ¬ (ps.length : Int) < (ps.length : Int) := by omega
      have HO1 : Hid (wr.ownsRow w0.heap.size 127 2 (.slice la ps.length lc) ps.length (gks (kmD Dm) ps.length)) := by
        have : (knCs ps).drop (ps.length * 2) = [] := List.drop_of_length_le (by omega)
        rw [this, List.append_nil] at hown
        exact hown
      have hsz := hkm.below.size
      clear hown hkm HO
      clear hbx
      go_wp2_with (first | (at_builtin; refine wpList_append_g (mc := kmD Dm) (E := 127) (k := 2) (by' := 32) Tryz.underlying57 HInp.out HZp.out HSp.out HByp.out rfl (by decide) rfl (by decide) (kmD_one Dm) _ rfl _ _ rfl w0.heap.size (.slice la ps.length lc) ps.length 1 1 rfl (HO1.out.alloc _) ⟨wr.heap.size, 0, none⟩ rfl (gks_news wr _ 1 _ rfl) (by omega) (by rw [size_alloc1]; omega) ?_; intro a1 c1 w1 ho1 hk1; have HK1 := hide (HKm.out.trans ((KG.above (E := 127) (k := 2) (mc := kmD Dm) (B := w0.heap.size) (by omega) ((Below.refl wr.heap.size wr).alloc (Nat.le_refl _) _)).trans hk1)); have HG1 := hide (own_gs (E := 127) (k := 2) (mc := kmD Dm) rfl (by decide) ho1 (by omega)); have HT1 := hide ((KG.above (E := 127) (k := 2) (mc := kmD Dm) (B := w0.heap.size) (by omega) ((Below.refl wr.heap.size wr).alloc (Nat.le_refl _) _)).trans hk1); have HL1 := hide (own_kg (E := 127) (k := 2) (mc := kmD Dm) rfl (by decide) (HO1.out.alloc _) hk1); have hs1 := hk1.below.size; rw [size_alloc1] at hs1; clear ho1 hk1; obtain ⟨y10, y11⟩ := kbox_cells (HBx.out.kg rfl HK1.out)) | (at_builtin; refine wpList_append_g (mc := kmD Dm) (E := 127) (k := 2) (by' := 32) Tryz.underlying57 HInp.out HZp.out HSp.out HByp.out rfl (by decide) rfl (by decide) (kmD_one Dm) _ rfl _ _ rfl w0.heap.size (.slice la ps.length lc) ps.length 2 2 rfl (HL1.out.alloc _) ⟨w1.heap.size, 0, none⟩ rfl (gks_news w1 _ 2 _ rfl) (by omega) (by rw [size_alloc1]; omega) ?_; intro a2 c2 w2 ho2 hk2; have HK2 := hide (HK1.out.trans ((KG.above (E := 127) (k := 2) (mc := kmD Dm) (B := w0.heap.size) (by omega) ((Below.refl w1.heap.size w1).alloc (Nat.le_refl _) _)).trans hk2)); have HG2 := hide (own_gs (E := 127) (k := 2) (mc := kmD Dm) rfl (by decide) ho2 (by omega)); have HT2 := hide ((KG.above (E := 127) (k := 2) (mc := kmD Dm) (B := w0.heap.size) (by omega) ((Below.refl w1.heap.size w1).alloc (Nat.le_refl _) _)).trans hk2); have HL2 := hide (own_kg (E := 127) (k := 2) (mc := kmD Dm) rfl (by decide) (HL1.out.alloc _) hk2); have hs2 := hk2.below.size; rw [size_alloc1] at hs2; clear ho2 hk2; obtain ⟨y20, y21⟩ := kbox_cells (HBx.out.kg rfl HK2.out)) | (at_builtin; refine wpList_append_g (mc := kmD Dm) (E := 127) (k := 2) (by' := 32) Tryz.underlying57 HInp.out HZp.out HSp.out HByp.out rfl (by decide) rfl (by decide) (kmD_one Dm) _ rfl _ _ rfl w0.heap.size (.slice la ps.length lc) ps.length 3 3 rfl (HL2.out.alloc _) ⟨w2.heap.size, 0, none⟩ rfl (gks_news w2 _ 3 _ rfl) (by omega) (by rw [size_alloc1]; omega) ?_; intro a3 c3 w3 ho3 hk3; have HK3 := hide (HK2.out.trans ((KG.above (E := 127) (k := 2) (mc := kmD Dm) (B := w0.heap.size) (by omega) ((Below.refl w2.heap.size w2).alloc (Nat.le_refl _) _)).trans hk3)); have HG3 := hide (own_gs (E := 127) (k := 2) (mc := kmD Dm) rfl (by decide) ho3 (by omega)); have HT3 := hide ((KG.above (E := 127) (k := 2) (mc := kmD Dm) (B := w0.heap.size) (by omega) ((Below.refl w2.heap.size w2).alloc (Nat.le_refl _) _)).trans hk3); have HL3 := hide (own_kg (E := 127) (k := 2) (mc := kmD Dm) rfl (by decide) (HL2.out.alloc _) hk3); have hs3 := hk3.below.size; rw [size_alloc1] at hs3; clear ho3 hk3; have HBk := hide (H0.out.above (HB.out.trans ((HBW.out.mono (by omega)).trans HK3.out.below))); have d0 := HBk.out.cf; have df := HBk.out.fz 2; have hN3 := HBk.out.nlt) | (at_builtin; refine wpList_append_lies _ rfl _ _ 43 rfl (N + 1) 57 inf _ 1 24 Tryz.underlying43 HInf.out HZ.out HSz.out HBy.out rfl (by decide) (.slice ia vs.length ic) vs.length vs rfl (HBk.out.row.alloc _) ⟨w3.heap.size, 0, none⟩ 4 4 [.slice la ps.length lc, .slice a1 (ps.length + 1) c1, .slice a2 (ps.length + 2) c2, .slice a3 (ps.length + 3) c3] rfl rfl (World.news_of_block (_root_.Go.heap_alloc_new w3 _)) (fun u hu => by simp at hu; rcases hu with rfl | rfl | rfl | rfl <;> rfl) (by decide) (by unfold maxLen; omega) (by omega) (by rw [size_alloc1]; omega) (w3.heap.size + 1) (by rw [size_alloc1]) ?_; intro g5 c5 w5 ho5 hg5 ha5 hl5; have HO5 := hide ho5; have HG5 := hide hg5; have k5 : w5.cell? ⟨N, 2, none⟩ = some (.slice ia vs.length ic) := (hg5.cell_far ⟨N, 2, none⟩ (by rw [size_alloc1]; show N < _; omega) (fun e => by have := (row_lt HBk.out.row N e.symm).1; omega)).trans ((World.cell?_of_block (Below.heap_alloc w3 _ N hN3)).trans d0); have kf5 : w5.frozen? ⟨N, 2, none⟩ = false := (hg5.frozen_far ⟨N, 2, none⟩ (by rw [size_alloc1]; show N < _; omega) (fun e => by have := (row_lt HBk.out.row N e.symm).1; omega)).trans ((World.frozen?_of_block (Below.heap_alloc w3 _ N hN3)).trans df); clear ho5 hg5 ha5))
      have M0 : GS 127 2 (kmD Dm) w3 (.slice la ps.length lc) := own_gs (E := 127) (k := 2) (mc := kmD Dm) rfl (by decide) HL3.out (by omega)
      have M1 : GS 127 2 (kmD Dm) w3 (.slice a1 (ps.length + 1) c1) := (HG1.out.kg HT2.out).kg HT3.out
      have M2 : GS 127 2 (kmD Dm) w3 (.slice a2 (ps.length + 2) c2) := HG2.out.kg HT3.out
      have M3 : GS 127 2 (kmD Dm) w3 (.slice a3 (ps.length + 3) c3) := HG3.out
      have hfin := bookF_add (by decide) (q := q) HBk.out g5 c5 _ _ rfl HO5.out HG5.out (fun v hv => by
        rw [HPm.out]
        simp at hv
        rcases hv with rfl | rfl | rfl | rfl
        · exact M0
        · exact M1
        · exact M2
        · exact M3) HQ.out
      go_end0
      refine ⟨rfl, ⟨_, ⟨_, hfin⟩, ?_⟩, ?_⟩
      · have := HQ.out
        simp
        omega
      · have hN0 := H0.out.nlt
        have b3 : Below N w0 w3 := (HB.out.trans ((HBW.out.mono (by omega)).trans HK3.out.below)).mono (by omega)
        exact ((b3.alloc (by omega) _).grown HG5.out (by rw [size_alloc1]; omega) (fun j hj => by have := (row_lt HBk.out.row j hj).1; omega)).setCell (p := ⟨N, 2, none⟩) (Nat.le_refl _) _
end Go.Proofs.YtmmflekajbeamaaGreatDoor

namespace Go.Proofs.YtmmflekajbeamaaGreatDoor
open Go.RowKit

abbrev BookK (N : Nat) (vs : List Value) (vi : Value) (w : World) : Prop := BookF 2 57 127 2 kmq N vs vi w

set_option maxRecDepth 100000 in
set_option maxHeartbeats 4000000 in
theorem lookPlans_f (N : Nat) (vs : List Value) (vi : Value) (w : World) (h : BookK N vs vi w) (hl : vs.length ≤ 400) :
    Calls Tryz.prog 40 #[.pointer (some ⟨N, 0, none⟩)] w fun e' w' => e' = .returned (.bool true) ∧ Below w.heap.size w w' := by
  obtain ⟨ia, ic, rfl⟩ := owns_len h.row
  have H := hide h
  have hNl := h.nlt
  have c1w := h.cf
  clear h
  go_enter Tryz.func40, Tryz.ntmps40
  go_wp2_with fail
  go_loopw [3] (fun i wr => ∃ k : Nat, k ≤ vs.length ∧ i = .int .i64 k ∧ Below w.heap.size w wr) (fun i _ => vs.length - (intOf i).toNat)
  case atStart => exact ⟨0, Nat.zero_le _, rfl, Below.refl _ _⟩
  case round =>
    obtain ⟨k, hk, rfl, hbl⟩ := hrel
    have HBl := hide hbl
    have hwz := hbl.size
    have HR := hide (H.out.above hbl)
    have c1 := HR.out.cf
    clear c1w
    by_cases hlt : k < vs.length
    · have hlt' : (k : Int) < (vs.length : Int) := by omega
      obtain ⟨g, c, hf, _, hgl⟩ := HR.out.row.form (by omega)
      cases hf
      obtain ⟨v, hv⟩ : ∃ v, vs[k]? = some v := ⟨vs[k], by simp [hlt]⟩
      have hcell : wr.cell? ⟨g, k, none⟩ = some v := (HR.out.row.cellAt k (by omega)).trans hv
      obtain ⟨a, n, cc, rfl, hnb, hms⟩ := HR.out.ms k v hv
      have HMs := hide hms
      clear hms hv hbl
      have HMk2 := hide (fun w' => markPlan_any (k / 4 * 4) w' (by omega))
      have hcm : ((k / 4 * 4 : Nat) : Int) = (k : Int) / 4 * 4 := by omega
      rw [hcm] at HMk2
      unfold kmq kmk at HMs
      rw [show 4 * (k / 4) = k / 4 * 4 by omega] at HMs
      generalize bya (numB 8 (k / 4 * 4)) = Dm at *
      clear hcm
      have hNr := HR.out.nlt
      go_wp2_with fail
      refine (unhide HMk2 _).mono ?_
      rintro e w1 ⟨rfl, hb1⟩
      have hs1 := hb1.size
      obtain ⟨W, hW⟩ : ∃ W, W = w1.alloc (.cells #[.string MARK, .string Dm] 127) := ⟨_, rfl⟩
      have HWe := hide hW
      have hbW : Below wr.heap.size wr W := by rw [hW]; exact hb1.alloc hs1 _
      have HBW := hide hbW
      have HBx : Hid (BoxG 127 (kmD Dm) W w1.heap.size) := by unfold Hid; rw [hW]; exact _root_.Go.heap_alloc_new w1 _
      have hsW : W.heap.size = w1.heap.size + 1 := by rw [hW, size_alloc1]
      clear hb1 hbW hW
      go_wp2_with fail
      rw [← HWe.out]
      obtain ⟨wo, hwo⟩ : ∃ wo, wo = wr := ⟨_, rfl⟩
      subst hwo
      go_loopw [5] (fun j wr2 => ∃ i : Nat, i ≤ n ∧ j = .int .i64 i ∧ Below W.heap.size W wr2) (fun j _ => n - (intOf j).toNat)
      case atStart => exact ⟨0, Nat.zero_le _, rfl, Below.refl _ _⟩
      case round =>
        obtain ⟨wr2, hwr2⟩ : ∃ wr2, wr2 = wr := ⟨_, rfl⟩
        subst hwr2
        obtain ⟨i, hi, rfl, hb2⟩ := hrel
        have HB2 := hide hb2
        have hrr : Below wo.heap.size wo wr2 := HBW.out.trans (hb2.mono HBW.out.size)
        have d1 := (below_cell' hrr N 2 hNr).trans c1
        have d2 := (below_cell' hrr g k hgl).trans hcell
        obtain ⟨x0, x1⟩ := kbox_cells (HBx.out.below hb2)
        by_cases hin : i < n
        · have hin' : (i : Int) < (n : Int) := by omega
          obtain ⟨g2, cur, rfl, hg2, hcur⟩ := HMs.out (by omega)
          have hg2' : wr2.heap[g2]? = some (.cells cur 127 (0, 0)) := (hrr.block g2 (Array.getElem?_eq_some_iff.1 hg2).1).trans hg2
          have ce : ∀ j u, j < 2 → (kmD Dm)[j]? = some u → wr2.cell? ⟨g2, i * 2 + j, none⟩ = some u := fun j u hj hu => by
            rw [cell_of_row wr2 g2 (i * 2 + j) cur _ _ hg2']
            exact hcur (i * 2 + j) u (by omega) (by rw [show (i * 2 + j) % 2 = j by omega]; exact hu)
          have y0 : wr2.cell? ⟨g2, i * 2, none⟩ = some (.string MARK) := ce 0 _ (by decide) rfl
          have y1 : wr2.cell? ⟨g2, i * 2 + 1, none⟩ = some (.string Dm) := ce 1 _ (by decide) rfl
          clear hg2 hcur hg2' ce hb2 hrr c1 hcell
          go_wp2_with fail
          go_quiet (fail)
          go_wp2_with fail
          exact ⟨⟨i + 1, by omega, by go_num, below_drewN HB2.out nq⟩, by simp [intOf]; omega⟩
        · have hin' : ¬ (i : Int) < (n : Int) := by omega
          have HE : Hid (Below w.heap.size w wr2) := HBl.out.trans (hrr.mono hwz)
          clear hb2 hrr c1 hcell
          go_wp2_with fail
          exact ⟨⟨k + 1, by omega, by go_num, HE.out⟩, by simp [intOf]; omega⟩
    · have hlt' : ¬ (k : Int) < (vs.length : Int) := by omega
      clear hbl
      go_wp2_with fail
      go_ret
      exact ⟨rfl, HBl.out⟩

set_option maxRecDepth 100000 in
set_option maxHeartbeats 2000000 in
theorem lookPuts_nil (N : Nat) (w : World) (c1 : w.cell? ⟨N, 1, none⟩ = some (.slice none 0 0)) :
    Calls Tryz.prog 39 #[.pointer (some ⟨N, 0, none⟩)] w fun e' w' => e' = .returned (.bool true) ∧ w' = w := by
  go_enter Tryz.func39, Tryz.ntmps39
  go_wp2_with fail
  go_loop [3] (fun i => i = .int .i64 0) (fun _ => 0)
  case atStart => rfl
  case round =>
    subst hrel
    go_wp2_with fail
    go_ret
    exact ⟨rfl, rfl⟩
set_option maxRecDepth 100000 in
set_option maxHeartbeats 2000000 in
theorem looks_plans (N : Nat) (vs : List Value) (vi : Value) (w : World) (h : BookK N vs vi w) (hl : vs.length ≤ 400) :
    Calls Tryz.prog 14 #[.pointer (some ⟨N, 0, none⟩)] w fun e' w' => e' = .returned (.bool true) ∧ Below w.heap.size w w' := by
  have HI := hide (lookInts_nil N w (h.cn 0 (by decide) (by decide)))
  have HP := hide (lookPuts_nil N w (h.cn 1 (by decide) (by decide)))
  have HL := hide (lookPlans_f N vs vi w h hl)
  clear h
  go_enter Tryz.func14, Tryz.ntmps14
  go_wp2_with fail
  refine (unhide HI).mono ?_
  rintro e w' ⟨rfl, hw⟩
  obtain rfl := hw.symm
  go_wp2_with fail
  refine (unhide HP).mono ?_
  rintro e w' ⟨rfl, hw⟩
  obtain rfl := hw.symm
  go_wp2_with fail
  refine (unhide HL).mono ?_
  rintro e w1 ⟨rfl, hb1⟩
  have HB := hide hb1
  clear hb1
  go_wp2_with fail
  go_ret
  exact ⟨rfl, HB.out⟩
end Go.Proofs.YtmmflekajbeamaaGreatDoor
