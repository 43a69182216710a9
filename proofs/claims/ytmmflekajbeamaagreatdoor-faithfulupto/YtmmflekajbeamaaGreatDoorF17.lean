/-
  Frames: an Entry frame is taken (takeEntry).
  The law's book of blocks and plans: a list that came out is written full of marks, appended to, and kept (keepPlans).
  The law's book of plans: its looks (lookPlans, looks).
  The law's world of devices: NewDevice (World.device).
  The law's world of devices: a step (World.step) of the kinds of devices.
  The law's step (World.step), of the kinds of devices.
  The law's step of a device that there is; every step of the kinds of devices.
  THE LAW Devices: what it begins with (criblaw.begins), the book that has nothing (Book.looks).
  THE LAW Devices, walked (criblaw.plays, criblaw.Devices).
  The engine's book: a block's words as a map's key.
  The engine's book in memory: plans by their blocks' words, each block once, in the order in which they came.
  The engine's book: a plan is found (book.find).
  The engine's book: a plan is laid in (book.lay), where the words are there.
-/
import Derived.Test.YtmmflekajbeamaaGreatDoorF16
import Derived.Test.YtmmflekajbeamaaGreatDoorF15
import Derived.Test.YtmmflekajbeamaaGreatDoorF07
import Derived.Deep.AppendLies
import Derived.Deep.MidRow
import Derived.Great.BuildSlice
namespace Go.Proofs.YtmmflekajbeamaaGreatDoor
open Go.RowKit

def rEntry (a : ArN) (q : List UInt8) : Option ArN := if q ≠ [] ∧ 1 + 4 * (q.getD 0 0).toNat ≤ q.length ∧ blkB (bya ((q.drop 1).take (4 * (q.getD 0 0).toNat))) = true then some ⟨a.gen, a.whole, a.good + (q.length + 8), a.list ++ [((q.drop 1).take (4 * (q.getD 0 0).toNat), q.drop (1 + 4 * (q.getD 0 0).toNat))]⟩ else none
theorem infoKn : ∃ i, Tryz.prog.info? 127 = some i ∧ i.zero = some (.agg #[.string ⟨#[]⟩, .string ⟨#[]⟩]) ∧ i.size = 2 ∧ i.bytes = 32 := by
  have h : (Tryz.prog.info? 127).map (fun i => (i.zero, i.size, i.bytes)) = some (some (.agg #[.string ⟨#[]⟩, .string ⟨#[]⟩]), 2, 32) := by kernel_rfl
  cases hq : Tryz.prog.info? 127 with
  | none => rw [hq] at h; cases h
  | some i =>
    rw [hq] at h
    simp only [Option.map_some, Option.some.injEq, Prod.mk.injEq] at h
    exact ⟨i, rfl, h.1, h.2.1, h.2.2⟩
theorem ext_bh (D : ByteArray) (c : Nat) (h : 1 + c ≤ D.size) : lst ((D.extract 1 D.size).extract 0 c) = ((lst D).drop 1).take c ∧ lst ((D.extract 1 D.size).extract c (D.extract 1 D.size).size) = (lst D).drop (1 + c) := by
  have hz : (D.extract 1 D.size).size = D.size - 1 := by rw [ByteArray.size_extract]; omega
  refine ⟨?_, ?_⟩
  · rw [lst_ext, lst_ext, List.drop_zero, Nat.sub_zero, List.take_take, Nat.min_eq_left (by omega)]
  · rw [lst_ext, lst_ext, hz, List.drop_take, List.drop_drop, List.take_of_length_le (by rw [List.length_take, List.length_drop, lst_len]; omega), List.take_of_length_le (by rw [List.length_drop, lst_len]; omega)]

set_option maxRecDepth 100000 in
set_option maxHeartbeats 4000000 in
theorem takeEntry_any (A : Nat) (a : ArN) (v : Value) (K : Nat) (q : List UInt8) (n : Int) (w : World) (h : ArAt A a v w) (ht : Tab w) (hq2 : q.length ≤ 200) (hal : a.list.length ≤ 2000000) :
    Calls Tryz.prog 225 #[.pointer (some ⟨A, 0, none⟩), .agg #[.int .i64 (K : Int), .string (bya q), .int .i64 n]] w (TkPost A a v (rEntry a q) w) := by
  obtain ⟨inf, hinf, hzi, hsz1, hby⟩ := infoKn
  have HInf := hide hinf; have HZi := hide hzi; have HSz := hide hsz1; have HBy := hide hby
  clear hinf hzi hsz1 hby
  have hA := h.lt
  have HNo : Hid (∀ w', Below w.heap.size w w' → rEntry a q = none → TkPost A a v (rEntry a q) w (.returned (.bool false)) w') := fun w' hb hr => ⟨TkFr.of_above hA hb, .inr ⟨hr, rfl, h.above hb⟩⟩
  have HR : Hid (¬ (q ≠ [] ∧ 1 + 4 * (q.getD 0 0).toNat ≤ q.length ∧ blkB (bya ((q.drop 1).take (4 * (q.getD 0 0).toNat))) = true) → rEntry a q = none) := fun hc => if_neg hc
  have HY : Hid ((q ≠ [] ∧ 1 + 4 * (q.getD 0 0).toNat ≤ q.length ∧ blkB (bya ((q.drop 1).take (4 * (q.getD 0 0).toNat))) = true) → rEntry a q = some ⟨a.gen, a.whole, a.good + (q.length + 8), a.list ++ [((q.drop 1).take (4 * (q.getD 0 0).toNat), q.drop (1 + 4 * (q.getD 0 0).toNat))]⟩) := fun hc => if_pos hc
  have hzq : (bya q).size = q.length := bya_size q
  have hc0 : (q.getD 0 0).toNat = bt (bya q) 0 := by rw [← bya_get]; rfl
  have hlD : lst (bya q) = q := lst_bya q
  have hqbT : q = [] → ((bya q).toList == ([] : List UInt8)) = true := fun e => by rw [e, ByteArray.toList_eq, bya_list]; rfl
  have hqbF : q ≠ [] → ((bya q).toList == ([] : List UInt8)) = false := bya_ne
  rw [hc0] at HR HY
  generalize bya q = D at *
  generalize rEntry a q = R at *
  have HB0 := hide ((Below.refl w.heap.size w).alloc (Nat.le_refl _) (.cells #[.int .i64 (K : Int), .string D, .int .i64 n] 236))
  by_cases hqe : q = []
  · have HN := hide (HR.out (fun hh => hh.1 hqe))
    have hqb := hqbT hqe
    clear hlD hzq
    go_enter Tryz.func225, Tryz.ntmps225
    go_wp2_with fail
    go_ret
    exact HNo.out _ HB0.out HN.out
  have hqb := hqbF hqe
  have hq1 : 1 ≤ q.length := by cases q with | nil => exact absurd rfl hqe | cons _ _ => simp
  have hD0 : 0 < D.size := by omega
  have hg0 := bt_get D 0 hD0
  have hbl := bt_lt D 0
  have hbz : (D.extract 1 D.size).size = q.length - 1 := by rw [ByteArray.size_extract]; omega
  have v1 : IntKind.i64.wrap (bt D 0 : Int) = (bt D 0 : Int) := by rw [IntKind.wrap_i64]; omega
  have hD1 : (1 : Int) ≤ (D.size : Int) := by omega
  by_cases hcl : q.length < 1 + 4 * bt D 0
  · have HN := hide (HR.out (fun hh => by have := hh.2.1; omega))
    have hgt : (((D.extract 1 D.size).size : Nat) : Int) < (bt D 0 : Int) * 4 := by omega
    have HZ := hide hbz; have HZq := hide hzq
    clear hbz hzq hc0 hlD hqbT hqbF HY
    generalize bt D 0 = c at *
    go_enter Tryz.func225, Tryz.ntmps225
    go_upto_region 3 with fail
    go_quiet (fail)
    have HB1 := hide (below_drewN HB0.out nq)
    generalize (w.alloc (.cells #[.int .i64 (K : Int), .string D, .int .i64 n] 236)).drewN nq = w1 at *
    generalize D.extract 1 D.size = Bh at *
    go_wp2_with fail
    go_ret
    exact HNo.out _ HB1.out HN.out
  have hle : ¬ (((D.extract 1 D.size).size : Nat) : Int) < (bt D 0 : Int) * 4 := by omega
  have hle2 : (bt D 0 : Int) * 4 ≤ (((D.extract 1 D.size).size : Nat) : Int) := by omega
  have v2 : ((bt D 0 : Int) * 4).toNat = 4 * bt D 0 := by omega
  have v3 : (0 : Int) ≤ (bt D 0 : Int) * 4 := by omega
  obtain ⟨x1, x2⟩ := ext_bh D (4 * bt D 0) (by omega)
  rw [hlD] at x1 x2
  have hWz : ((D.extract 1 D.size).extract 0 (4 * bt D 0)).size ≤ maxLen := by rw [ByteArray.size_extract]; unfold maxLen; omega
  have HRd := hide (fun w' (hb : Below w.heap.size w w') => blkRead_any ((D.extract 1 D.size).extract 0 (4 * bt D 0)) w' (ht.below ht.pos hb) hWz)
  have hPz : ((D.extract 1 D.size).extract (4 * bt D 0) (D.extract 1 D.size).size).size ≤ 2000000 := by rw [ByteArray.size_extract]; omega
  have HCl := hide (fun w' => clone_any ((D.extract 1 D.size).extract (4 * bt D 0) (D.extract 1 D.size).size) w' hPz)
  have HZ := hide hbz; have HZq := hide hzq; have HX1 := hide x1; have HX2 := hide x2
  have HQe := hide hqe; have HCl2 := hide hcl
  clear hbz hzq hc0 hlD hqbT hqbF x1 x2 hqe hcl
  generalize bt D 0 = c at *
  go_enter Tryz.func225, Tryz.ntmps225
  go_upto_region 3 with fail
  go_quiet (fail)
  have HB1 := hide (below_drewN HB0.out nq)
  generalize (w.alloc (.cells #[.int .i64 (K : Int), .string D, .int .i64 n] 236)).drewN nq = w1 at *
  generalize D.extract 1 D.size = Bh at *
  go_wp2_with fail
  refine (unhide HRd _ HB1.out).mono ?_
  rintro e w2 ⟨hb2, ⟨hok, rfl⟩ | ⟨hno, rfl⟩⟩
  rotate_left
  · have HN : Hid (R = none) := HR.out (fun hh => hno (by
      have := (blkB_iff _).1 hh.2.2
      rw [← HX1.out, bya_lst] at this
      exact this))
    have HB2 : Hid (Below w.heap.size w w2) := HB1.out.trans (hb2.mono HB1.out.size)
    have HB3 : Hid (Below w.heap.size w (w2.alloc (.cells (S (wdZ [])) 187))) := HB2.out.alloc HB2.out.size _
    have z9 := zero9
    clear hb2 hno HRd HCl
    go_wp2_with (refine wpList_storeR size9 rfl _ _ rfl w2.heap.size rfl (wdZ []) rfl rfl (by rw [isRowB_alloc_at _ _ _ _ _ rfl]; rfl) _ (setRow_alloc_at _ _ _ _ _ rfl) ?_)
    go_ret
    exact HNo.out _ HB3.out HN.out
  have hwl : (blkL (Bh.extract 0 (4 * c)) ((Bh.extract 0 (4 * c)).size / 4)).length ≤ 8 := by rw [blkL_len]; have := hok.2.1; omega
  have hwb := blkL_bd (Bh.extract 0 (4 * c)) ((Bh.extract 0 (4 * c)).size / 4)
  have HTx := hide (fun w' => wdText_any (blkL (Bh.extract 0 (4 * c)) ((Bh.extract 0 (4 * c)).size / 4)) w' hwl hwb)
  rw [wds_lst hok.2.2.1] at HTx
  have hzl := wdZ_len hwl
  have HRs : Hid (R = some ⟨a.gen, a.whole, a.good + (q.length + 8), a.list ++ [(lst (Bh.extract 0 (4 * c)), lst (Bh.extract (4 * c) Bh.size))]⟩) := by
    unfold Hid
    rw [HX1.out, HX2.out]
    refine HY.out ⟨HQe.out, by have := HCl2.out; omega, (blkB_iff _).2 ?_⟩
    rw [← HX1.out, bya_lst]
    exact hok
  have HB2 : Hid (Below w.heap.size w w2) := HB1.out.trans (hb2.mono HB1.out.size)
  have HB3 : Hid (Below w.heap.size w (w2.alloc (.cells (S (wdZ (blkL (Bh.extract 0 (4 * c)) ((Bh.extract 0 (4 * c)).size / 4)))) 187))) := HB2.out.alloc HB2.out.size _
  have HWd : Hid (RowI (w2.alloc (.cells (S (wdZ (blkL (Bh.extract 0 (4 * c)) ((Bh.extract 0 (4 * c)).size / 4)))) 187)) w2.heap.size 187 (wdZ (blkL (Bh.extract 0 (4 * c)) ((Bh.extract 0 (4 * c)).size / 4)))) := _root_.Go.heap_alloc_new w2 _
  have z9 := zero9
  have hz2 := HB2.out.size
  clear hb2 hok HRd HR HY HX1 HX2 hwl hwb
  generalize wdZ (blkL (Bh.extract 0 (4 * c)) ((Bh.extract 0 (4 * c)).size / 4)) = zw at *
  go_wp2_with (refine wpList_storeR size9 rfl _ _ rfl w2.heap.size rfl zw rfl hzl (by rw [isRowB_alloc_at _ _ _ _ _ rfl]; rfl) _ (setRow_alloc_at _ _ _ _ _ rfl) ?_)
  refine (unhide HCl _).mono ?_
  rintro e w4 ⟨rfl, hb4⟩
  have hz4 := hb4.size
  rw [size_alloc1] at hz4
  have HB4 : Hid (Below w.heap.size w w4) := HB3.out.trans (hb4.mono (by rw [size_alloc1]; omega))
  have a4 := h.above HB4.out
  have r4 := HWd.out.keep (hb4.block _ (by rw [size_alloc1]; omega))
  have HR4 := hide r4
  have c3 : w4.cell? ⟨A, 3, none⟩ = some v := a4.cell 3
  have HA4 := hide a4
  clear hb4 a4 r4 HCl
  go_upto_region 10 with fail
  refine held_pick [0, 1, 2, 3, 4, 5, 7] [6, 8, 9, 10, 11, 12, 13] 11 (fun w' => w'.cell? ⟨A, 3, none⟩ = some v ∧ RowI w' w2.heap.size 187 zw) (by kernel_rfl) (by kernel_rfl) (fun d _ _ _ _ h => by cases d <;> exact h) ⟨c3, HR4.out⟩ ?_
  iterate 5
    refine wpTakeI_step ?_ rfl rfl ?_ ?_
    rotate_left
    · rintro w' ⟨d0, d1⟩
      go_simp
      rfl
    go_simp
  refine ⟨_, .agg (S zw), rfl, yieldsIf_load_mid rfl 187 _ rfl w2.heap.size 0 rfl (zw.map (Value.int .i64)) _ (fun w' hS => by have := range_row hS.2 0 9 (by omega); rw [List.drop_zero, List.take_of_length_le (by omega)] at this; exact this) Tryz.underlying187 rfl (by rw [size9, List.length_map, hzl]), ?_⟩
  go_simp
  refine wpTakeI_step ?_ rfl rfl ?_ ?_
  rotate_left
  · rintro w' ⟨d0, d1⟩
    go_simp
    rfl
  go_simp
  refine wpTakeI_nil ?_
  refine wpTailI_step rfl rfl (fun K hK => ?_)
  go_simp
  refine (unhide HTx _).mono ?_
  rintro e w5 ⟨rfl, hb5⟩
  rw [bya_lst]
  have HB5 : Hid (Below w4.heap.size w4 w5) := (show Below w4.heap.size w4 w4.drew from (Below.refl _ w4).drew).trans hb5
  have hA4 : A < w4.heap.size := by have := HB4.out.size; omega
  have a5 := HA4.out.above HB5.out
  have HA5 := hide a5
  have c5 : w5.cell? ⟨A, 3, none⟩ = some v := a5.cell 3
  have HR5 := hide (HR4.out.keep (HB5.out.block _ (by omega)))
  refine hK _ _ (fun _ => ⟨c5, HR5.out⟩) ?_
  clear hK K hb5 a5 HTx
  refine wpTailI_step rfl rfl (fun K hK => ?_)
  go_simp
  refine hK _ _ (fun _ => ⟨c5, HR5.out⟩) ?_
  clear hK K
  have hz5 := HB5.out.size
  have HOv := hide h.list
  refine wpTailI_step rfl rfl (fun K hK => ?_)
  go_simp
  refine hK _ _ (fun _ => ⟨(World.cell?_of_block (Below.heap_alloc w5 _ A (by omega))).trans c5, HR5.out.keep (Below.heap_alloc w5 _ _ (by omega))⟩) ?_
  clear hK K
  refine wpTailI_step rfl rfl (fun K hK => ?_)
  refine wp_append_lies _ _ _ 57 rfl (A + 1) 127 inf _ 2 32 Tryz.underlying57 HInf.out HZi.out HSz.out HBy.out rfl (by decide) v a.list.length (knCs a.list) rfl (HA5.out.list.alloc _) ⟨w5.heap.size, 0, none⟩ 1 1 [.string (Bh.extract 0 (4 * c)), .string (Bh.extract (4 * c) Bh.size)] rfl rfl (World.news_of_block (_root_.Go.heap_alloc_new w5 _)) (fun u hu => by simp at hu; rcases hu with rfl | rfl <;> rfl) (by decide) (by unfold maxLen; omega) (by omega) (by show A + 1 ≤ (w5.alloc _).heap.size; rw [size_alloc1]; omega) (w5.heap.size + 1) (by show (w5.alloc _).heap.size = _; rw [size_alloc1]) ?_
  intro g cap w6 hown6 hgr hat hlt6
  have hA6 : w6.heap[A]? = w5.heap[A]? := (hgr.block A (by show A < (w5.alloc _).heap.size; rw [size_alloc1]; omega) (fun e => by have := (row_lt HOv.out A e.symm).1; omega)).trans (Below.heap_alloc w5 _ A (by omega))
  have hW6 : w6.heap[w2.heap.size]? = w5.heap[w2.heap.size]? := (hgr.block _ (by show w2.heap.size < (w5.alloc _).heap.size; rw [size_alloc1]; omega) (fun e => by have := (row_lt HOv.out _ e.symm).2; omega)).trans (Below.heap_alloc w5 _ _ (by omega))
  have c6 : w6.cell? ⟨A, 3, none⟩ = some v := (World.cell?_of_block hA6).trans c5
  have f6 : w6.frozen? ⟨A, 3, none⟩ = false := (World.frozen?_of_block hA6).trans (HA5.out.frozen 3)
  refine hK _ _ (fun _ => ⟨c6, HR5.out.keep hW6⟩) ?_
  have HO6 := hide hown6; have HGr := hide hgr; have HAt := hide hat; have HA6 := hide hA6; have HLt := hide hlt6
  clear hown6 hgr hat hK K hA6 hW6 hlt6
  refine wpTailI_step rfl rfl (fun K hK => ?_)
  go_simp
  refine hK _ _ (fun h => absurd h (by decide)) ?_
  clear hK K
  refine wpTailI_step rfl rfl (fun K hK => ?_)
  go_simp
  refine hK _ _ (fun h => absurd h (by decide)) ?_
  clear hK K
  refine wpTailI_step rfl rfl (fun K hK => ?_)
  go_simp
  refine hK _ _ (fun h => absurd h (by decide)) ?_
  clear hK K
  refine wpTailI_nil ?_
  go_wp2_with fail
  go_ret
  have hzz : w.heap.size ≤ w4.heap.size := HB4.out.size
  have B5 : Below w.heap.size w w5 := HB4.out.trans (HB5.out.mono hzz)
  have BA : Below A w w6 := ((B5.mono (Nat.le_of_lt hA)).alloc (by omega) _).grown HGr.out (by rw [size_alloc1]; omega) (fun q hq => by have := (row_lt HOv.out q hq).1; omega)
  refine ⟨⟨BA.setCell (p := ⟨A, 3, none⟩) (Nat.le_refl _) _, fun g' hg hn ho => ?_⟩, .inl ⟨_, .slice (some ⟨g, 0, none⟩) (a.list.length + 1) cap, HRs.out, rfl, ⟨?_, ?_⟩, fun g' hg' => ?_⟩⟩
  · refine (heap_set_other _ _ hn).trans (((HGr.out.block g' (by rw [size_alloc1]; omega) (fun e => ho e.symm)).trans (Below.heap_alloc w5 _ _ (by omega))).trans (B5.block g' hg))
  · have hcA : w6.heap[A]? = some (.cells (arV a.gen a.whole a.good v) 175 (0, 0)) := HA6.out.trans HA5.out.cells
    obtain ⟨hlt, hk⟩ := Array.getElem?_eq_some_iff.1 hcA
    show (w6.heap.modify A _)[A]? = _
    rw [Array.getElem?_eq_getElem (by rw [Array.size_modify]; exact hlt), Array.getElem_modify_self, hk]
    rfl
  · have e : knCs (a.list ++ [(lst (Bh.extract 0 (4 * c)), lst (Bh.extract (4 * c) Bh.size))]) = knCs a.list ++ [.string (Bh.extract 0 (4 * c)), .string (Bh.extract (4 * c) Bh.size)] := by rw [knCs_snoc, bya_lst, bya_lst]
    show World.ownsRow _ _ _ _ _ (a.list ++ [_]).length (knCs (a.list ++ [_]))
    rw [e, List.length_append]
    refine ownsRow_keep HO6.out (fun g' hg' => heap_set_other _ _ (fun e => ?_))
    have := (row_lt HO6.out g' hg').1
    omega
  · have hgg : g = g' := by simpa [Value.ownBlock] using hg'
    subst hgg
    rcases HAt.out with h | h
    · exact .inl h
    · exact .inr (by omega)
end Go.Proofs.YtmmflekajbeamaaGreatDoor

namespace Go.Proofs.YtmmflekajbeamaaGreatDoor
open Go.RowKit

end Go.Proofs.YtmmflekajbeamaaGreatDoor

namespace Go.Proofs.YtmmflekajbeamaaGreatDoor
open Go.RowKit

end Go.Proofs.YtmmflekajbeamaaGreatDoor

namespace Go.Proofs.YtmmflekajbeamaaGreatDoor
open Go.RowKit

end Go.Proofs.YtmmflekajbeamaaGreatDoor

namespace Go.Proofs.YtmmflekajbeamaaGreatDoor
open Go.RowKit

end Go.Proofs.YtmmflekajbeamaaGreatDoor

namespace Go.Proofs.YtmmflekajbeamaaGreatDoor
open Go.RowKit

end Go.Proofs.YtmmflekajbeamaaGreatDoor

namespace Go.Proofs.YtmmflekajbeamaaGreatDoor
open Go.RowKit

end Go.Proofs.YtmmflekajbeamaaGreatDoor

namespace Go.Proofs.YtmmflekajbeamaaGreatDoor
open Go.RowKit

end Go.Proofs.YtmmflekajbeamaaGreatDoor

namespace Go.Proofs.YtmmflekajbeamaaGreatDoor
open Go.RowKit

end Go.Proofs.YtmmflekajbeamaaGreatDoor

namespace Go.Proofs.YtmmflekajbeamaaGreatDoor
open Go.RowKit Go.Maps Go.WideMaps

theorem rowW : (187 : TypeId) < Tryz.prog.types.size := of_decide_eq_true (by kernel_rfl)
theorem wideW : (match Tryz.prog.underlying 187 with | some (.array _ _) | some (.struct _) => true | _ => false) = true := by rw [Tryz.underlying187]
set_option maxRecDepth 100000 in
theorem lawW : Keyed Tryz.prog 187 := Keyed.of_law (deep_law_laid loE (m := 3) (by omega) rowW (by kernel_rfl) wideW)
theorem ktW : Tryz.prog.keyType 187 = true := by kernel_rfl
theorem csW : Tryz.prog.cellsOf 187 = 9 := by kernel_rfl
theorem csW8 : Tryz.prog.cellsOf 25 = 8 := by kernel_rfl
def wB (x : Int) : Prop := -9223372036854775808 ≤ x ∧ x ≤ 9223372036854775807
def keyW (z : List Int) : Lit := .string (keyBytes (z.map (Lit.int .i64)))
theorem wf_of {x : Int} (h : wB x) : (Lit.int .i64 x).wf = true := by unfold wB at h; refine WalkArith.wf_i64 ?_ <;> omega
set_option maxRecDepth 100000 in
theorem keyOfW (z : List Int) (hz : z.length = 9) (hb : ∀ x ∈ z, wB x) : keyOf Tryz.prog 187 (.agg (S z)) = some (keyW z) := by
  match z, hz with
  | [a, b, c, d, e, f, g, h, i], _ =>
    have wa := wf_of (hb a (by simp))
    have wb := wf_of (hb b (by simp))
    have wc := wf_of (hb c (by simp))
    have wd := wf_of (hb d (by simp))
    have we := wf_of (hb e (by simp))
    have wf := wf_of (hb f (by simp))
    have wg := wf_of (hb g (by simp))
    have wh := wf_of (hb h (by simp))
    have wi := wf_of (hb i (by simp))
    obtain ⟨m, hm⟩ : ∃ m, Tryz.prog.types.size = m + 3 := ⟨Tryz.prog.types.size - 3, (Nat.sub_add_cancel (Nat.le_of_lt_succ (Nat.lt_of_lt_of_le (by decide : 3 < 4) (Nat.le_trans (by decide : 4 ≤ 100) (of_decide_eq_true (by kernel_rfl : decide (100 ≤ Tryz.prog.types.size + 1) = true)))))).symm⟩
    unfold keyOf
    simp only [Tryz.underlying187]
    rw [if_pos (by simp [ktW, Value.formed, Tryz.underlying187, csW, S]), hm]
    unfold Program.keyLits
    simp only [Tryz.underlying187, Value.cells]
    rw [if_pos (by rw [csW]; exact ⟨rfl, by simp⟩)]
    simp [S, csI, csW8, Program.keyLits, Tryz.underlying3, Tryz.underlying25, wa, wb, wc, wd, we, wf, wg, wh, wi, keyW, List.range, List.range.loop]
end Go.Proofs.YtmmflekajbeamaaGreatDoor

namespace Go.Proofs.YtmmflekajbeamaaGreatDoor
open Go.RowKit Go.Maps Go.WideMaps

/-- A block's words, and a plan. -/
abbrev KwN := List Nat × List UInt8
def wOK (ws : List Nat) : Prop := ws.length ≤ 8 ∧ ∀ x ∈ ws, x < 4294967296
theorem wdZ_b {ws : List Nat} (h : wOK ws) : ∀ x ∈ wdZ ws, wB x := by
  intro x hx
  unfold wdZ at hx
  unfold wB
  rcases List.mem_cons.1 hx with rfl | hx
  · have := h.1; omega
  · rcases List.mem_append.1 hx with hx | hx
    · unfold nI at hx
      obtain ⟨y, hy, rfl⟩ := List.mem_map.1 hx
      have := h.2 y hy
      omega
    · unfold zr at hx
      have := (List.mem_replicate.1 hx).2
      omega
def kW (ws : List Nat) : Lit := keyW (wdZ ws)
theorem keyOfWs {ws : List Nat} (h : wOK ws) : keyOf Tryz.prog 187 (.agg (S (wdZ ws))) = some (kW ws) := keyOfW (wdZ ws) (wdZ_len h.1) (wdZ_b h)
theorem wdZ_inj {ws ws' : List Nat} (e : wdZ ws = wdZ ws') : ws = ws' := by
  have h0 : (ws.length : Int) = (ws'.length : Int) := by have := congrArg (fun z => gz z 0) e; simpa [wdZ_0] using this
  have hl : ws.length = ws'.length := by omega
  apply List.ext_getElem?
  intro i
  rcases Nat.lt_or_ge i ws.length with hi | hi
  · have h1 := wdZ_at (ws := ws) hi
    have h2 := wdZ_at (ws := ws') (i := i) (by omega)
    rw [e, h2] at h1
    rw [List.getElem?_eq_getElem hi, List.getElem?_eq_getElem (by omega : i < ws'.length)]
    have q1 : ws.getD i 0 = ws[i] := by simp [List.getD, hi]
    have q2 : ws'.getD i 0 = ws'[i]'(by omega) := by simp [List.getD, (by omega : i < ws'.length)]
    rw [q1, q2] at h1
    congr 1
    omega
  · rw [List.getElem?_eq_none hi, List.getElem?_eq_none (by omega)]
theorem kW_inj {ws ws' : List Nat} (h : wOK ws) (h' : wOK ws') (e : kW ws = kW ws') : ws = ws' := by
  have h1 := keyOfWs h
  have h2 := keyOfWs h'
  rw [e] at h1
  have h3 := lawW.inj h1 h2
  have h4 : S (wdZ ws) = S (wdZ ws') := by simpa using h3
  refine wdZ_inj ?_
  unfold S at h4
  have h5 : (wdZ ws).map (Value.int .i64) = (wdZ ws').map (Value.int .i64) := by simpa using h4
  exact List.map_inj_right (fun a b q => by cases q; rfl) |>.1 h5
/-- The words of a book. -/
def bkW (l : List KwN) : List (List Nat) := l.map (·.1)
def bkCs (l : List KwN) : List Value := knCs (l.map fun k => (wdsT k.1, k.2))
/-- A map's datum tells where the words stand. -/
def BoOK (D : DataW Unit) (T : List (List Nat)) : Prop :=
  ∀ ws, wOK ws → (Maps.has D (kW ws) = true ↔ ws ∈ T) ∧ ∀ n : Nat, T[n]? = some ws → (∀ m : Nat, T[m]? = some ws → m = n) → D.atKey (kW ws) (.lit (.int .i64 0)) = .lit (.int .i64 (n : Int))
theorem BoOK.add {D : DataW Unit} {T : List (List Nat)} (h : BoOK D T) (hD : IsMap D) {e : List Nat} (he : wOK e) (hn : e ∉ T) : BoOK (D.put (kW e) (.lit (.int .i64 (T.length : Int)))) (T ++ [e]) := by
  intro e' he'
  obtain ⟨h1, h2⟩ := h e' he'
  by_cases hee : e' = e
  · subst hee
    refine ⟨⟨fun _ => by simp, fun _ => ?_⟩, fun n hn' _ => ?_⟩
    · rw [has_put_same hD (lawW.key (keyOfWs he'))]
    · rw [atKey_put_same hD (lawW.key (keyOfWs he'))]
      have : n = T.length := by
        by_cases hl : n < T.length
        · rw [List.getElem?_append_left hl] at hn'
          exact absurd (List.mem_of_getElem? hn') hn
        · have := (List.getElem?_eq_some_iff.1 hn').1
          simp at this
          omega
      rw [this]
  · have hk : kW e' ≠ kW e := fun q => hee (kW_inj he' he q)
    refine ⟨?_, fun n hn' hu => ?_⟩
    · rw [has_put_other hk, h1]
      simp [hee]
    · rw [atKey_put_other hk]
      have hl : n < T.length := by
        by_cases hl : n < T.length
        · exact hl
        · rw [List.getElem?_append_right (by omega)] at hn'
          have h0 := (List.getElem?_eq_some_iff.1 hn').1
          have h00 : n - T.length = 0 := by simp at h0; omega
          rw [h00] at hn'
          simp at hn'
          exact absurd hn'.symm hee
      rw [List.getElem?_append_left hl] at hn'
      exact h2 n hn' (fun m hm => hu m (by rw [List.getElem?_append_left (List.getElem?_eq_some_iff.1 hm).1]; exact hm))
/-- A book at offset o of block N; what it owns lies from block B on. A nil map has nothing. -/
structure BoAt (B N o : Nat) (l : List KwN) (mv v : Value) (w : World) : Prop where
  c0 : w.cell? ⟨N, o, none⟩ = some mv
  c1 : w.cell? ⟨N, o + 1, none⟩ = some v
  nv : v.ownBlock ≠ some N
  ls : w.ownsRow B 127 2 v l.length (bkCs l)
  ok : ∀ k ∈ l, wOK k.1
  one : ∀ i j : Nat, i < l.length → (bkW l)[i]? = (bkW l)[j]? → i = j
  mp : (mv = .map none ∧ l = []) ∨ ∃ b D, mv = .map (some b) ∧ B ≤ b ∧ w.ownsMap Tryz.prog 187 (plainElem Tryz.prog 3) b l.length D ∧ BoOK D (bkW l)
end Go.Proofs.YtmmflekajbeamaaGreatDoor

namespace Go.Proofs.YtmmflekajbeamaaGreatDoor
open Go.RowKit Go.Maps Go.WideMaps

theorem bk_cells {w : World} {B g c : Nat} {l : List KwN} (h : w.ownsRow B 127 2 (.slice (some ⟨g, 0, none⟩) l.length c) l.length (bkCs l)) (n : Nat) (k : KwN) (hn : l[n]? = some k) :
    w.cell? ⟨g, n * 2, none⟩ = some (.string (bya (wdsT k.1))) ∧ w.cell? ⟨g, n * 2 + 1, none⟩ = some (.string (bya k.2)) := by
  have hl : (l.map fun k => (wdsT k.1, k.2)).length = l.length := List.length_map _
  have h' := h
  unfold bkCs at h'
  rw [← hl] at h'
  exact kn_cells h' n (wdsT k.1, k.2) (by rw [List.getElem?_map, hn]; rfl)
/-- Where words stand in a book. -/
theorem BoAt.uniq {B N o : Nat} {l : List KwN} {mv v : Value} {w : World} (h : BoAt B N o l mv v w) {n : Nat} {ws : List Nat} (hn : (bkW l)[n]? = some ws) : ∀ m : Nat, (bkW l)[m]? = some ws → m = n := fun m hm => by
  have hl : m < l.length := by have := (List.getElem?_eq_some_iff.1 hm).1; unfold bkW at this; simpa using this
  exact h.one m n hl (by rw [hm, hn])
set_option maxRecDepth 100000 in
set_option maxHeartbeats 2000000 in
theorem find_yes (B N o : Nat) (l : List KwN) (mv v : Value) (n : Nat) (k : KwN) (w : World) (h : BoAt B N o l mv v w) (hn : l[n]? = some k) (hl : l.length ≤ 1000000000000) :
    Calls Tryz.prog 217 #[.pointer (some ⟨N, o, none⟩), .agg (S (wdZ k.1))] w fun e' w' => e' = .returned (.tuple #[.string (bya k.2), .bool true]) ∧ Below w.heap.size w w' := by
  have hw := h.ok k (List.mem_of_getElem? hn)
  have hbn : (bkW l)[n]? = some k.1 := by unfold bkW; rw [List.getElem?_map, hn]; rfl
  rcases h.mp with ⟨_, rfl⟩ | ⟨b, D, rfl, hB, hown, htok⟩
  · cases hn
  have c0 := h.c0
  have c1 := h.c1
  have hnl : n < l.length := (List.getElem?_eq_some_iff.1 hn).1
  obtain ⟨g, c, hv, hgB, hgl⟩ := h.ls.form (by omega)
  rw [hv] at c1
  have hls := h.ls
  rw [hv] at hls
  obtain ⟨_, d1⟩ := bk_cells hls n k hn
  obtain ⟨hh1, hh2⟩ := htok k.1 hw
  have hat := hh2 n hbn (h.uniq hbn)
  have hin : k.1 ∈ bkW l := List.mem_of_getElem? hbn
  have hrun : (Instr.lookup 129 (.map (some b)) (.agg (S (wdZ k.1))) true).run Tryz.prog ((w.alloc (.cells (S (wdZ k.1)) 187)).drew) = .ok (.tuple #[.int .i64 (n : Int), .bool true]) ((w.alloc (.cells (S (wdZ k.1)) 187)).drew) := by
    obtain ⟨x, ps', hrun, hx⟩ := ((hown.alloc (.cells (S (wdZ k.1)) 187)).drew).look_ok lawW Tryz.underlying129 (zeroI _) (plainElem_int (H := Unit) Tryz.underlying3 (a := 0) (by decide)) (keyOfWs hw)
    rw [hh1.2 hin] at hrun
    obtain ⟨a, rfl, ha, _⟩ := plainElem_int_inv Tryz.underlying3 hx
    rw [hat] at ha
    cases ha
    exact hrun
  have HB : Hid (∀ ob : Obj, Below w.heap.size w (w.alloc ob).drew) := fun ob => ((Below.refl _ _).alloc (Nat.le_refl _) ob).drew
  have hNl : N < w.heap.size := block_lt_of_cell c0
  have hz := wdZ_len hw.1
  have hn0 : ¬ (n : Int) < 0 := by omega
  have hn1 : (n : Int) < (l.length : Int) := by omega
  clear h hw hbn hown htok hh1 hh2 hat hin hls hv hn
  generalize wdZ k.1 = z at *
  generalize bya k.2 = P at *
  generalize l.length = L at *
  match z, hz with
  | [a0, a1, a2, a3, a4, a5, a6, a7, a8], _ =>
    simp only [S, List.map_cons, List.map_nil] at hrun ⊢
    go_enter Tryz.func217, Tryz.ntmps217
    go_wp2_with fail
    refine still_all (by kernel_rfl) (by kernel_rfl) ?_
    repeat still_step
    refine wpStill_nil ?_
    go_wp2_with fail
    go_ret2
    exact ⟨rfl, HB.out _⟩
set_option maxRecDepth 100000 in
set_option maxHeartbeats 2000000 in
theorem find_no (B N o : Nat) (l : List KwN) (mv v : Value) (ws : List Nat) (w : World) (h : BoAt B N o l mv v w) (hw : wOK ws) (hn : ws ∉ bkW l) :
    Calls Tryz.prog 217 #[.pointer (some ⟨N, o, none⟩), .agg (S (wdZ ws))] w fun e' w' => e' = .returned (.tuple #[.string ⟨#[]⟩, .bool false]) ∧ Below w.heap.size w w' := by
  have c0 := h.c0
  have hNl : N < w.heap.size := block_lt_of_cell c0
  have hz := wdZ_len hw.1
  have HB : Hid (∀ ob : Obj, Below w.heap.size w (w.alloc ob).drew) := fun ob => ((Below.refl _ _).alloc (Nat.le_refl _) ob).drew
  have key : ∃ x, (Instr.lookup 129 mv (.agg (S (wdZ ws))) true).run Tryz.prog ((w.alloc (.cells (S (wdZ ws)) 187)).drew) = .ok (.tuple #[x, .bool false]) ((w.alloc (.cells (S (wdZ ws)) 187)).drew) := by
    rcases h.mp with ⟨rfl, _⟩ | ⟨b, D, rfl, hB, hown, htok⟩
    · exact ⟨.int .i64 0, Maps.look_nil true lawW Tryz.underlying129 (zeroI _) (keyOfWs hw)⟩
    · obtain ⟨x, ps', hrun, hx⟩ := ((hown.alloc (.cells (S (wdZ ws)) 187)).drew).look_ok lawW Tryz.underlying129 (zeroI _) (plainElem_int (H := Unit) Tryz.underlying3 (a := 0) (by decide)) (keyOfWs hw)
      have hf : Maps.has D (kW ws) = false := by
        cases hq : Maps.has D (kW ws)
        · rfl
        · exact absurd ((htok ws hw).1.1 hq) hn
      rw [hf] at hrun
      exact ⟨x, hrun⟩
  obtain ⟨x, hrun⟩ := key
  have hmv : ∃ ob, mv = .map ob := by
    rcases h.mp with ⟨rfl, _⟩ | ⟨b, D, rfl, _⟩
    · exact ⟨_, rfl⟩
    · exact ⟨_, rfl⟩
  obtain ⟨ob, rfl⟩ := hmv
  clear h hw hn
  generalize wdZ ws = z at *
  match z, hz with
  | [a0, a1, a2, a3, a4, a5, a6, a7, a8], _ =>
    simp only [S, List.map_cons, List.map_nil] at hrun ⊢
    go_enter Tryz.func217, Tryz.ntmps217
    go_wp2_with fail
    refine still_all (by kernel_rfl) (by kernel_rfl) ?_
    repeat still_step
    refine wpStill_nil ?_
    go_wp2_with fail
    go_ret2
    exact ⟨rfl, HB.out _⟩
end Go.Proofs.YtmmflekajbeamaaGreatDoor

namespace Go.Proofs.YtmmflekajbeamaaGreatDoor
open Go.RowKit Go.Maps Go.WideMaps

theorem own_setAt {w : World} {B k g n cap : Nat} {e : TypeId} {xs : List Value} (h : w.ownsRow B e k (.slice (some ⟨g, 0, none⟩) n cap) n xs) (j : Nat) (u : Value) : (w.setCell ⟨g, j, none⟩ u).ownsRow B e k (.slice (some ⟨g, 0, none⟩) n cap) n (xs.set j u) := by
  rcases h.2 with ⟨q, _⟩ | ⟨g', cap', cur, q, h1, h2, h3, h4, h5, h6⟩
  · cases q
  · cases q
    refine ⟨by rw [List.length_set]; exact h.1, .inr ⟨g, cap, cur.setIfInBounds j u, rfl, h1, ?_, h3, h4, by rw [Array.size_setIfInBounds]; exact h5, ?_⟩⟩
    · simp [World.setCell, Array.getElem?_modify, h2]
    · rw [Array.toList_setIfInBounds, List.take_set, h6]
/-- What laying a plan into the book at o of block N leaves as it was. -/
structure BFr (B N o : Nat) (mv v : Value) (w w' : World) : Prop where
  below : Below B w w'
  other : ∀ g, g < w.heap.size → g ≠ N → (∀ b, mv = .map (some b) → g ≠ b) → v.ownBlock ≠ some g → w'.heap[g]? = w.heap[g]?
  cells : ∀ j, j ≠ o → j ≠ o + 1 → w'.cell? ⟨N, j, none⟩ = w.cell? ⟨N, j, none⟩
  fz : ∀ j, w'.frozen? ⟨N, j, none⟩ = w.frozen? ⟨N, j, none⟩
def layB (l : List KwN) (ws : List Nat) (p : List UInt8) : List KwN :=
  match (bkW l).findIdx? (· == ws) with
  | some n => l.set n (ws, p)
  | none => l ++ [(ws, p)]
theorem bkCs_cons (k : KwN) (l : List KwN) : bkCs (k :: l) = .string (bya (wdsT k.1)) :: .string (bya k.2) :: bkCs l := by simp [bkCs, knCs]
theorem bkCs_set : ∀ (l : List KwN) (n : Nat) (k : KwN) (p : List UInt8), l[n]? = some k → (bkCs l).set (n * 2 + 1) (.string (bya p)) = bkCs (l.set n (k.1, p))
  | [], n, _, _, h => by simp at h
  | x :: l, 0, k, p, h => by
    have : x = k := by simpa using h
    subst this
    rw [List.set_cons_zero, bkCs_cons, bkCs_cons]
    rfl
  | x :: l, n + 1, k, p, h => by
    have h' : l[n]? = some k := by simpa using h
    rw [List.set_cons_succ, bkCs_cons, bkCs_cons, show (n + 1) * 2 + 1 = n * 2 + 1 + 1 + 1 by omega, List.set_cons_succ, List.set_cons_succ, bkCs_set l n k p h']
theorem bkW_set (l : List KwN) (n : Nat) (k : KwN) (p : List UInt8) (h : l[n]? = some k) : bkW (l.set n (k.1, p)) = bkW l := by
  unfold bkW
  rw [List.map_set]
  apply List.ext_getElem?
  intro j
  rw [List.getElem?_set]
  split
  · rename_i e
    subst e
    split
    · rw [List.getElem?_map, h]; rfl
    · rename_i h1
      rw [List.getElem?_eq_none (by omega)]
  · rfl
theorem BoAt.setPlan {B N o : Nat} {l : List KwN} {mv v : Value} {w : World} (h : BoAt B N o l mv v w) {n g c : Nat} {k : KwN} (hn : l[n]? = some k) (hv : v = .slice (some ⟨g, 0, none⟩) l.length c) (p : List UInt8) :
    BoAt B N o (l.set n (k.1, p)) mv v (w.setCell ⟨g, n * 2 + 1, none⟩ (.string (bya p))) ∧ BFr B N o mv v w (w.setCell ⟨g, n * 2 + 1, none⟩ (.string (bya p))) := by
  have hgN : N ≠ g := fun e => h.nv (by rw [hv, e]; rfl)
  have hN : (w.setCell ⟨g, n * 2 + 1, none⟩ (.string (bya p))).heap[N]? = w.heap[N]? := set_other hgN
  have hBg : B ≤ g := (row_lt h.ls g (by rw [hv]; rfl)).1
  refine ⟨⟨(World.cell?_of_block hN).trans h.c0, (World.cell?_of_block hN).trans h.c1, h.nv, ?_, fun x hx => ?_, fun i j hi e => ?_, ?_⟩, ⟨(Below.refl _ _).setCell (p := ⟨g, n * 2 + 1, none⟩) hBg _, fun g' _ _ _ hv' => set_other (fun e => hv' (by rw [hv, e]; rfl)), fun j _ _ => World.cell?_of_block hN, fun j => World.frozen?_of_block hN⟩⟩
  · have hls := h.ls
    rw [hv] at hls ⊢
    rw [List.length_set, ← bkCs_set l n k p hn]
    exact own_setAt hls _ _
  · rcases List.mem_or_eq_of_mem_set hx with q | q
    · exact h.ok x q
    · rw [q]; exact h.ok k (List.mem_of_getElem? hn)
  · rw [bkW_set l n k p hn] at e
    rw [List.length_set] at hi
    exact h.one i j hi e
  · rcases h.mp with ⟨q, e⟩ | ⟨b, D, q, hb, hm, ht⟩
    · rw [e] at hn; cases hn
    · refine .inr ⟨b, D, q, hb, ?_, by rw [bkW_set l n k p hn]; exact ht⟩
      rw [List.length_set]
      have hne : b ≠ g := fun e => by
        obtain ⟨es, cl, hh⟩ := map_of hm
        obtain ⟨_, c', t', fr, hc⟩ := ownsRow_cells h.ls g (by rw [hv]; rfl)
        rw [e, hc] at hh
        cases hh
      exact map_keep hm (set_other hne)
set_option maxRecDepth 100000 in
theorem map_eqn (b : Nat) (w : World) : (binOp .eql 129 (.map (some b)) (.map none)).run Tryz.prog w = .ok (.bool false) w := by
  kernel_rfl
set_option maxRecDepth 100000 in
theorem map_eq0 (w : World) : (binOp .eql 129 (.map none) (.map none)).run Tryz.prog w = .ok (.bool true) w := by
  kernel_rfl
theorem BoAt.up {B N o : Nat} {l : List KwN} {mv v : Value} {w w' : World} (h : BoAt B N o l mv v w) (hb : Below w.heap.size w w') : BoAt B N o l mv v w' := by
  have hN := hb.block N (block_lt_of_cell h.c0)
  refine ⟨(World.cell?_of_block hN).trans h.c0, (World.cell?_of_block hN).trans h.c1, h.nv, own_grow h.ls hb, h.ok, h.one, ?_⟩
  rcases h.mp with q | ⟨b, D, q, hB, hm, ht⟩
  · exact .inl q
  · exact .inr ⟨b, D, q, hB, map_keep hm (hb.block b hm.lt), ht⟩
theorem BFr.grow {B N o : Nat} {mv v : Value} {w w1 w2 : World} (k : BFr B N o mv v w w1) (hN : N < w1.heap.size) (hB : B ≤ w1.heap.size) (hb : Below w1.heap.size w1 w2) : BFr B N o mv v w w2 :=
  ⟨k.below.trans (hb.mono hB), fun g hg h1 h2 h3 => (hb.block g (Nat.lt_of_lt_of_le hg k.below.size)).trans (k.other g hg h1 h2 h3), fun j h1 h2 => (World.cell?_of_block (hb.block N hN)).trans (k.cells j h1 h2), fun j => (World.frozen?_of_block (hb.block N hN)).trans (k.fz j)⟩
set_option maxRecDepth 100000 in
set_option maxHeartbeats 2000000 in
theorem lay_yes (B N o : Nat) (l : List KwN) (mv v : Value) (n : Nat) (k : KwN) (p : ByteArray) (w : World) (h : BoAt B N o l mv v w) (hB : B ≤ w.heap.size) (hn : l[n]? = some k) (hl : l.length ≤ 1000000000000) :
    Calls Tryz.prog 190 #[.pointer (some ⟨N, o, none⟩), .agg (S (wdZ k.1)), .string p] w fun e' w' => e' = .returned (.tuple #[]) ∧ BoAt B N o (l.set n (k.1, lst p)) mv v w' ∧ BFr B N o mv v w w' := by
  have hw := h.ok k (List.mem_of_getElem? hn)
  have hbn : (bkW l)[n]? = some k.1 := by unfold bkW; rw [List.getElem?_map, hn]; rfl
  have HH := hide h; have HHn := hide hn
  rcases h.mp with ⟨_, rfl⟩ | ⟨b, D, rfl, _, hown, htok⟩
  · cases hn
  have c0 := h.c0
  have c1 := h.c1
  have hnl : n < l.length := (List.getElem?_eq_some_iff.1 hn).1
  obtain ⟨g, c, hv, hgB, hgl⟩ := h.ls.form (by omega)
  have HV := hide hv
  rw [hv] at c1
  have hls := h.ls
  rw [hv] at hls
  obtain ⟨_, d1⟩ := bk_cells hls n k hn
  have f1 : w.frozen? ⟨g, n * 2 + 1, none⟩ = false := hls.frozenAt _
  obtain ⟨hh1, hh2⟩ := htok k.1 hw
  have hat := hh2 n hbn (h.uniq hbn)
  have hin : k.1 ∈ bkW l := List.mem_of_getElem? hbn
  have hrun : (Instr.lookup 129 (.map (some b)) (.agg (S (wdZ k.1))) true).run Tryz.prog ((w.alloc (.cells (S (wdZ k.1)) 187)).drew) = .ok (.tuple #[.int .i64 (n : Int), .bool true]) ((w.alloc (.cells (S (wdZ k.1)) 187)).drew) := by
    obtain ⟨x, ps', hrun, hx⟩ := ((hown.alloc (.cells (S (wdZ k.1)) 187)).drew).look_ok lawW Tryz.underlying129 (zeroI _) (plainElem_int (H := Unit) Tryz.underlying3 (a := 0) (by decide)) (keyOfWs hw)
    rw [hh1.2 hin] at hrun
    obtain ⟨a, rfl, ha, _⟩ := plainElem_int_inv Tryz.underlying3 hx
    rw [hat] at ha
    cases ha
    exact hrun
  have HE : Hid (∀ ob W, W = ((w.setCell ⟨g, n * 2 + 1, none⟩ (.string p)).alloc ob).drew → BoAt B N o (l.set n (k.1, lst p)) (.map (some b)) v W ∧ BFr B N o (.map (some b)) v w W) := fun ob W e => by
    have q := HH.out.setPlan HHn.out HV.out (lst p)
    rw [bya_lst] at q
    have hb0 : Below (w.setCell ⟨g, n * 2 + 1, none⟩ (.string p)).heap.size (w.setCell ⟨g, n * 2 + 1, none⟩ (.string p)) ((w.setCell ⟨g, n * 2 + 1, none⟩ (.string p)).alloc ob).drew := ((Below.refl _ _).alloc (Nat.le_refl _) ob).drew
    rw [e]
    exact ⟨q.1.up hb0, q.2.grow (by rw [set_size]; exact block_lt_of_cell HH.out.c0) (by rw [set_size]; exact hB) hb0⟩
  have hNl : N < w.heap.size := block_lt_of_cell c0
  have hz := wdZ_len hw.1
  have hn0 : ¬ (n : Int) < 0 := by omega
  have hn1 : (n : Int) < (l.length : Int) := by omega
  have hgN : ¬ g = w.heap.size := by omega
  clear h hw hbn hown htok hh1 hh2 hat hin hls hv hn hB
  generalize hQ : wdZ k.1 = z at *
  generalize bya k.2 = P at *
  generalize hL : l.length = L at *
  clear hQ hL
  match z, hz with
  | [a0, a1, a2, a3, a4, a5, a6, a7, a8], _ =>
    simp only [S, List.map_cons, List.map_nil] at hrun ⊢
    have me := map_eqn b
    go_enter Tryz.func190, Tryz.ntmps190
    go_wp2_with fail
    refine still_all (by kernel_rfl) (by kernel_rfl) ?_
    repeat still_step
    refine wpStill_nil ?_
    go_wp2_with fail
    go_end0
    exact ⟨rfl, HE.out _ _ rfl⟩
end Go.Proofs.YtmmflekajbeamaaGreatDoor
