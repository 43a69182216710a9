/-
  THE LAW Plans, walked: it answers true, for every two texts and every state.
  Frames: an Entry frame is taken (takeEntry).
  Frames: a frame is taken (take).
-/
import Derived.Test.YtmmflekajbeamaaDoorM24
import Derived.Test.YtmmflekajbeamaaDoorM25
import Derived.Test.YtmmflekajbeamaaDoorM26
import Derived.Deep.MidRow
import Derived.Test.YtmmflekajbeamaaDoorM22
import Derived.Test.YtmmflekajbeamaaDoorM16
import Derived.Deep.AppendLies
namespace Go.Proofs.YtmmflekajbeamaaDoor
open Go.RowKit

set_option maxRecDepth 100000 in
set_option maxHeartbeats 2000000 in
theorem accepts_any (s p : ByteArray) (w : World) (ht : Tab w) (hs : s.size ≤ maxLen) (hp : p.size ≤ maxLen) :
    Calls Tryd.prog 20 #[.string s, .string p] w fun e' w' => e' = .returned (.bool true) ∧ Below w.heap.size w w' := by
  have H1 := hide (cribAccept_any s p w ht hs hp)
  have H2 := hide (fun w' => refAccept_any s p w' hs hp)
  clear ht
  go_enter Tryd.func20, Tryd.ntmps20
  go_wp2_with fail
  refine (unhide H1).mono ?_
  rintro e w1 ⟨hb1, n, rfl, hn⟩
  have HB1 := hide hb1; have HN := hide hn
  have hz1 := hb1.size
  clear hb1 hn H1
  go_wp2_with fail
  refine (unhide H2 _).mono ?_
  rintro e w2 ⟨hb2, m, rfl, hm⟩
  obtain rfl := HN.out.one hm
  have HB2 : Hid (Below w.heap.size w w2) := HB1.out.trans (hb2.mono hz1)
  have HNm := hide (fun w' => num_any n w')
  clear hb2 hm H2
  go_wp2_with fail
  refine (unhide HNm _).mono ?_
  rintro e w' ⟨rfl, hw'⟩
  obtain rfl := hw'.symm
  go_wp2_with fail
  go_ret
  exact ⟨ret_bool (by simp), HB2.out⟩

theorem DoPost.one {p : ByteArray} {regs mem : List Int} {w1 w2 w1' w2' : World} {e1 e2 : Ending} (h1 : DoPost p regs mem w1 e1 w1') (h2 : DoPost p regs mem w2 e2 w2') : e1 = e2 := by
  obtain ⟨_, ⟨a, rfl⟩ | ⟨a, b, rfl⟩ | ⟨a, b, rfl⟩⟩ := h1 <;> obtain ⟨_, ⟨c, rfl⟩ | ⟨c, d, rfl⟩ | ⟨c, d, rfl⟩⟩ := h2
  all_goals first | rfl | exact absurd a c | exact absurd c a | exact absurd b d | exact absurd d b
theorem DoPost.form {p : ByteArray} {regs mem : List Int} {w w' : World} {e : Ending} (hr : regs.length = 8) (hm : mem.length = 128) (h : DoPost p regs mem w e w') : ∃ z n, e = .returned (.tuple #[.agg (S z), .int .i64 n]) ∧ z.length = 8 := by
  obtain ⟨hb, ⟨h1, rfl⟩ | ⟨h1, h2, rfl⟩ | ⟨h1, h2, rfl⟩⟩ := h
  · exact ⟨_, _, rfl, zr_len 8⟩
  · exact ⟨_, _, rfl, zr_len 8⟩
  · refine ⟨_, _, rfl, ?_⟩
    have hl : ((putL p (p.size / 8)).foldl (stD mem) (begD regs)).length = 16 := by
      have := (WL.fold (allW_WL h1.2 hm) (putL_ok h2) (putL p (p.size / 8)).length (begD regs) (Nat.le_refl _) (WL.beg (allW_WL h1.1 hr))).1
      rw [List.take_length] at this
      exact this
    unfold doL
    rw [List.length_take, hl]
    rfl
theorem range_row {w : World} {g : Nat} {t : TypeId} {z : List Int} (h : RowI w g t z) (o k : Nat) (ho : o + k ≤ z.length) : w.rangeAt g o (((z.drop o).take k).map (Value.int .i64)) := by
  intro j v hj
  have hlt := (List.getElem?_eq_some_iff.1 hj).1
  simp only [List.length_map, List.length_take, List.length_drop] at hlt
  rw [h.cell (o + j) (by omega)]
  rw [List.getElem?_map, List.getElem?_take, if_pos (by omega), List.getElem?_drop] at hj
  unfold gz
  rw [List.getD_eq_getElem?_getD]
  cases hq : z[o + j]? with
  | none => rw [hq] at hj; cases hj
  | some y => rw [hq] at hj; exact hj

set_option maxRecDepth 100000 in
set_option maxHeartbeats 2000000 in
theorem does_any (p : ByteArray) (z : List Int) (w : World) (hz : z.length = 138) (hp : p.size ≤ maxLen) :
    Calls Tryd.prog 19 #[.string p, .agg (S z)] w fun e' w' => e' = .returned (.bool true) ∧ Below w.heap.size w w' := by
  have z8 := zero8
  have hr : ((z.drop 0).take 8).length = 8 := by simp [hz]
  have hm : ((z.drop 8).take 128).length = 128 := by simp [hz]
  have H1 := hide (fun w' => cribDo_any p ((z.drop 0).take 8) ((z.drop 8).take 128) w' hr hm hp)
  have H2 := hide (fun w' => refDo_any p ((z.drop 0).take 8) ((z.drop 8).take 128) w' hr hm hp)
  have HR : Hid (RowI (w.alloc (.cells (S z) 34)) w.heap.size 34 z) := _root_.Go.heap_alloc_new w _
  have HB0 := hide ((Below.refl w.heap.size w).alloc (Nat.le_refl _) (.cells (S z) 34))
  have s8 : (Tryd.prog.info? 31).map (·.size) = some (((z.drop 0).take 8).map (Value.int .i64)).length := by rw [size8, List.length_map, hr]
  have s128 : (Tryd.prog.info? 32).map (·.size) = some (((z.drop 8).take 128).map (Value.int .i64)).length := by rw [size128, List.length_map, hm]
  have HS8 := hide s8; have HS128 := hide s128
  clear s8 s128
  have HF := hide (fun w1 w1' e => DoPost.form (p := p) (w := w1) (w' := w1') (e := e) hr hm)
  have HRg := hide (fun w' (h : RowI w' w.heap.size 34 z) => range_row h 0 8 (by omega))
  have HRm := hide (fun w' (h : RowI w' w.heap.size 34 z) => range_row h 8 128 (by omega))
  clear hr hm
  generalize hrg : (z.drop 0).take 8 = rg at *
  generalize hmg : (z.drop 8).take 128 = mg at *
  clear hrg hmg
  go_enter Tryd.func19, Tryd.ntmps19
  go_wp2_with (first | (refine wpList_load_mid rfl 31 _ rfl w.heap.size 0 rfl (rg.map (Value.int .i64)) _ (HRg.out _ HR.out) Tryd.underlying31 rfl HS8.out ?_) | (refine wpList_load_mid rfl 32 _ rfl w.heap.size 8 rfl (mg.map (Value.int .i64)) _ (HRm.out _ HR.out) Tryd.underlying32 rfl HS128.out ?_))
  refine (unhide H1 _).mono ?_
  intro e w1 hpost
  obtain ⟨z1, n1, rfl, hl1⟩ := HF.out _ _ _ hpost
  have HP1 := hide hpost
  have hb1 := hpost.1
  have HB1 : Hid (Below w.heap.size w w1) := HB0.out.trans (hb1.mono (by rw [size_alloc1]; omega))
  have HR1 := hide (HR.out.keep (hb1.block _ (by rw [size_alloc1]; omega)))
  have hz1 := hb1.size
  rw [size_alloc1] at hz1
  have HRa : Hid (RowI (w1.alloc (.cells (S z1) 31)) w.heap.size 34 z) := HR1.out.keep (Below.heap_alloc w1 _ _ HR1.out.lt)
  clear hpost hb1
  go_wp2_with (first | (refine wpList_storeR size8 rfl _ _ rfl w1.heap.size rfl z1 rfl hl1 (by rw [isRowB_alloc_at _ _ _ _ _ rfl]; rfl) _ (setRow_alloc_at _ _ _ _ _ rfl) ?_) | (refine wpList_load_mid rfl 31 _ rfl w.heap.size 0 rfl (rg.map (Value.int .i64)) _ (HRg.out _ HRa.out) Tryd.underlying31 rfl HS8.out ?_) | (refine wpList_load_mid rfl 32 _ rfl w.heap.size 8 rfl (mg.map (Value.int .i64)) _ (HRm.out _ HRa.out) Tryd.underlying32 rfl HS128.out ?_))
  refine (unhide H2 _).mono ?_
  intro e w2 hpost
  have he := DoPost.one HP1.out hpost
  subst he
  have hb2 := hpost.1
  have HB2 : Hid (Below w.heap.size w w2) := (HB1.out.alloc (by omega) _).trans (hb2.mono (by rw [size_alloc1]; omega))
  have hz2 := hb2.size
  rw [size_alloc1] at hz2
  have r1 : RowI w2 w1.heap.size 31 z1 := RowI.keep (show RowI (w1.alloc (.cells (S z1) 31)) w1.heap.size 31 z1 from _root_.Go.heap_alloc_new w1 _) (hb2.block _ (by rw [size_alloc1]; omega))
  have HRx : Hid (RowI (w2.alloc (.cells (S z1) 31)) w1.heap.size 31 z1) := r1.keep (Below.heap_alloc w2 _ _ r1.lt)
  have HRy : Hid (RowI (w2.alloc (.cells (S z1) 31)) w2.heap.size 31 z1) := _root_.Go.heap_alloc_new w2 _
  have heq := eq8 z1 z1 hl1 hl1
  rw [decide_eq_true rfl] at heq
  have HNm := hide (fun w' => num_any n1 w')
  clear hpost hb2 r1
  go_wp2_with (first | (refine wpList_storeR size8 rfl _ _ rfl w2.heap.size rfl z1 rfl hl1 (by rw [isRowB_alloc_at _ _ _ _ _ rfl]; rfl) _ (setRow_alloc_at _ _ _ _ _ rfl) ?_) | (refine wpList_loadR rfl Tryd.underlying31 size8 rfl _ rfl w1.heap.size rfl (HRx.out.isRow 8 hl1) _ HRx.out.rowD ?_) | (refine wpList_loadR rfl Tryd.underlying31 size8 rfl _ rfl w2.heap.size rfl (HRy.out.isRow 8 hl1) _ HRy.out.rowD ?_))
  refine (unhide HNm _).mono ?_
  rintro e w' ⟨rfl, hw'⟩
  obtain rfl := hw'.symm
  go_wp2_with fail
  go_ret
  exact ⟨ret_bool (by simp), HB2.out.alloc (by omega) _⟩

theorem bookP_new (w : World) (o : Obj) : BookP (w.heap.size + 1) [] (.slice none 0 0) ((w.alloc o).alloc (.cells #[.slice none 0 0, .slice none 0 0, .slice none 0 0] 27)) := by
  refine ⟨?_, fun j h1 h2 => ?_, fun j => ?_, fun cur hc => ?_, World.ownsRow_nil _ _ _ _, fun i v hi => by simp at hi⟩
  · rw [World.cell?_alloc_at (hn := by rw [size_alloc1])]; rfl
  · rw [World.cell?_alloc_at (hn := by rw [size_alloc1])]
    have : j = 0 ∨ j = 2 := by omega
    rcases this with rfl | rfl <;> rfl
  · rw [World.frozen?_alloc_at (hn := by rw [size_alloc1])]
  · have := _root_.Go.heap_alloc_new (w.alloc o) (.cells #[.slice none 0 0, .slice none 0 0, .slice none 0 0] 27)
    rw [size_alloc1] at this
    rw [this] at hc
    cases hc

set_option maxRecDepth 100000 in
set_option maxHeartbeats 2000000 in
theorem plans_any (s p : ByteArray) (z : List Int) (w : World) (ht : Tab w) (hz : z.length = 138) (hs : s.size ≤ maxLen) (hp : p.size ≤ maxLen) :
    Calls Tryd.prog 6 #[.string s, .string p, .agg (S z)] w fun e' w' => e' = .returned (.bool true) ∧ Below w.heap.size w w' := by
  have HT := hide ht
  have hpos := ht.pos
  clear ht
  have HR : Hid (RowI (w.alloc (.cells (S z) 34)) w.heap.size 34 z) := _root_.Go.heap_alloc_new w _
  obtain ⟨W, hW⟩ : ∃ W, W = (w.alloc (.cells (S z) 34)).alloc (.cells #[.slice none 0 0, .slice none 0 0, .slice none 0 0] 27) := ⟨_, rfl⟩
  have HW := hide hW
  have hbW : Below w.heap.size w W := by rw [hW]; exact ((Below.refl _ _).alloc (Nat.le_refl _) _).alloc (by rw [size_alloc1]; omega) _
  have HK0 : Hid (BookP (w.heap.size + 1) [] (.slice none 0 0) W) := by unfold Hid; rw [hW]; exact bookP_new w _
  have HRW : Hid (RowI W w.heap.size 34 z) := by unfold Hid; rw [hW]; exact HR.out.keep (Below.heap_alloc _ _ _ HR.out.lt)
  have HBW := hide hbW
  have H1 := hide (putsOf_any p (w.heap.size + 1) 0 [] _ W HK0.out rfl (by decide) hp)
  have hzW : W.heap.size = w.heap.size + 1 + 1 := by rw [hW, size_alloc1, size_alloc1]
  clear hbW hW
  go_enter Tryd.func6, Tryd.ntmps6
  go_wp2_with fail
  rw [← HW.out]
  refine (unhide H1).mono ?_
  rintro e w1 ⟨rfl, ⟨vs1, vi1, hk1, hl1⟩, hb1⟩
  have HB1 : Hid (Below w.heap.size w w1) := HBW.out.trans (hb1.mono (by omega))
  have r1 : RowI w1 w.heap.size 34 z := HRW.out.keep (hb1.block _ (by omega))
  have HK1 := hide hk1; have HL1 := hide hl1
  have H2 := hide (does_any p z w1 hz hp)
  have hz1 : w.heap.size < w1.heap.size := r1.lt
  have rI := r1.isRow 138 hz
  have rD := r1.rowD
  clear hk1 hl1 hb1 r1 H1
  go_wp2_with (refine wpList_load_S rfl _ rfl w.heap.size rfl rI _ rD ?_)
  refine (unhide H2).mono ?_
  rintro e w2 ⟨rfl, hb2⟩
  have HB2 : Hid (Below w.heap.size w w2) := HB1.out.trans (hb2.mono (by omega))
  have HK2 := hide (HK1.out.above hb2)
  have hz2 := hb2.size
  have H3 := hide (accepts_any s p w2 (HT.out.below hpos HB2.out) hs hp)
  clear hb2 H2 rI rD
  go_wp2_with fail
  refine (unhide H3).mono ?_
  rintro e w3 ⟨rfl, hb3⟩
  have HB3 : Hid (Below w.heap.size w w3) := HB2.out.trans (hb3.mono (by omega))
  have H4 := hide (putsOf_any p (w.heap.size + 1) 1 vs1 vi1 w3 (HK2.out.above hb3) HL1.out (by decide) hp)
  have hz3 := hb3.size
  clear hb3 H3
  go_wp2_with fail
  refine (unhide H4).mono ?_
  rintro e w4 ⟨rfl, ⟨vs2, vi2, hk4, hl4⟩, hb4⟩
  have HB4 : Hid (Below w.heap.size w w4) := HB3.out.trans (hb4.mono (by omega))
  have H5 := hide (looks_puts (w.heap.size + 1) vs2 vi2 w4 hk4 (by omega))
  have hz4 := hb4.size
  clear hk4 hl4 hb4 H4
  go_wp2_with fail
  refine (unhide H5).mono ?_
  rintro e w5 ⟨rfl, hb5⟩
  have HB5 : Hid (Below w.heap.size w w5) := HB4.out.trans (hb5.mono (by omega))
  clear hb5 H5
  go_wp2_with fail
  go_ret
  exact ⟨rfl, HB5.out⟩
end Go.Proofs.YtmmflekajbeamaaDoor

namespace Go.Proofs.YtmmflekajbeamaaDoor
open Go.RowKit

def rEntry (a : ArN) (q : List UInt8) : Option ArN := if q ≠ [] ∧ 1 + 4 * (q.getD 0 0).toNat ≤ q.length ∧ blkB (bya ((q.drop 1).take (4 * (q.getD 0 0).toNat))) = true then some ⟨a.gen, a.whole, a.good + (q.length + 8), a.list ++ [((q.drop 1).take (4 * (q.getD 0 0).toNat), q.drop (1 + 4 * (q.getD 0 0).toNat))]⟩ else none
theorem infoKn : ∃ i, Tryd.prog.info? 72 = some i ∧ i.zero = some (.agg #[.string ⟨#[]⟩, .string ⟨#[]⟩]) ∧ i.size = 2 ∧ i.bytes = 32 := by
  have h : (Tryd.prog.info? 72).map (fun i => (i.zero, i.size, i.bytes)) = some (some (.agg #[.string ⟨#[]⟩, .string ⟨#[]⟩]), 2, 32) := by kernel_rfl
  cases hq : Tryd.prog.info? 72 with
  | none => rw [hq] at h; cases h
  | some i =>
    rw [hq] at h
    simp only [Option.map_some, Option.some.injEq, Prod.mk.injEq] at h
    exact ⟨i, rfl, h.1, h.2.1, h.2.2⟩
theorem ext_bh (D : ByteArray) (c : Nat) (h : 1 + c ≤ D.size) : lst ((D.extract 1 D.size).extract 0 c) = ((lst D).drop 1).take c ∧ lst ((D.extract 1 D.size).extract c (D.extract 1 D.size).size) = (lst D).drop (1 + c) := by
  have hz : (D.extract 1 D.size).size = D.size - 1 := by rw [ByteArray.size_extract]; omega
  refine ⟨?_, ?_⟩
  · rw [lst_ext, lst_ext, List.drop_zero, Nat.sub_zero, List.take_take, Nat.min_eq_left (by omega)]
  · rw [lst_ext, lst_ext, hz, List.drop_take, List.drop_drop, List.take_of_length_le (by rw [List.length_take, List.length_drop, lst_len]; omega), List.take_of_length_le (by rw [List.length_drop, lst_len]; omega)]

set_option maxRecDepth 100000 in
set_option maxHeartbeats 4000000 in
theorem takeEntry_any (A : Nat) (a : ArN) (v : Value) (K : Nat) (q : List UInt8) (n : Int) (w : World) (h : ArAt A a v w) (ht : Tab w) (hq2 : q.length ≤ 200) (hal : a.list.length ≤ 2000000) :
    Calls Tryd.prog 146 #[.pointer (some ⟨A, 0, none⟩), .agg #[.int .i64 (K : Int), .string (bya q), .int .i64 n]] w (TkPost A a v (rEntry a q) w) := by
  obtain ⟨inf, hinf, hzi, hsz1, hby⟩ := infoKn
  have HInf := hide hinf; have HZi := hide hzi; have HSz := hide hsz1; have HBy := hide hby
  clear hinf hzi hsz1 hby
  have hA := h.lt
  have HNo : Hid (∀ w', Below w.heap.size w w' → rEntry a q = none → TkPost A a v (rEntry a q) w (.returned (.bool false)) w') := fun w' hb hr => ⟨TkFr.of_above hA hb, .inr ⟨hr, rfl, h.above hb⟩⟩
  have HR : Hid (¬ (q ≠ [] ∧ 1 + 4 * (q.getD 0 0).toNat ≤ q.length ∧ blkB (bya ((q.drop 1).take (4 * (q.getD 0 0).toNat))) = true) → rEntry a q = none) := fun hc => if_neg hc
  have HY : Hid ((q ≠ [] ∧ 1 + 4 * (q.getD 0 0).toNat ≤ q.length ∧ blkB (bya ((q.drop 1).take (4 * (q.getD 0 0).toNat))) = true) → rEntry a q = some ⟨a.gen, a.whole, a.good + (q.length + 8), a.list ++ [((q.drop 1).take (4 * (q.getD 0 0).toNat), q.drop (1 + 4 * (q.getD 0 0).toNat))]⟩) := fun hc => if_pos hc
  have hzq : (bya q).size = q.length := bya_size q
  have hc0 : (q.getD 0 0).toNat = bt (bya q) 0 := by rw [← bya_get]; rfl
  have hlD : lst (bya q) = q := lst_bya q
  have hqbT : q = [] → ((bya q).toList == ([] : List UInt8)) = true := fun e => by rw [e, ByteArray.toList_eq, bya_list]; rfl
  have hqbF : q ≠ [] → ((bya q).toList == ([] : List UInt8)) = false := bya_ne
  rw [hc0] at HR HY
  generalize bya q = D at *
  generalize rEntry a q = R at *
  have HB0 := hide ((Below.refl w.heap.size w).alloc (Nat.le_refl _) (.cells #[.int .i64 (K : Int), .string D, .int .i64 n] 149))
  by_cases hqe : q = []
  · have HN := hide (HR.out (fun hh => hh.1 hqe))
    have hqb := hqbT hqe
    clear hlD hzq
    go_enter Tryd.func146, Tryd.ntmps146
    go_wp2_with fail
    go_ret
    exact HNo.out _ HB0.out HN.out
  have hqb := hqbF hqe
  have hq1 : 1 ≤ q.length := by cases q with | nil => exact absurd rfl hqe | cons _ _ => simp
  have hD0 : 0 < D.size := by omega
  have hg0 := bt_get D 0 hD0
  have hbl := bt_lt D 0
  have hbz : (D.extract 1 D.size).size = q.length - 1 := by rw [ByteArray.size_extract]; omega
  have v1 : IntKind.i64.wrap (bt D 0 : Int) = (bt D 0 : Int) := by rw [IntKind.wrap_i64]; omega
  have hD1 : (1 : Int) ≤ (D.size : Int) := by omega
  by_cases hcl : q.length < 1 + 4 * bt D 0
  · have HN := hide (HR.out (fun hh => by have := hh.2.1; omega))
    have hgt : (((D.extract 1 D.size).size : Nat) : Int) < (bt D 0 : Int) * 4 := by omega
    have HZ := hide hbz; have HZq := hide hzq
    clear hbz hzq hc0 hlD hqbT hqbF HY
    generalize bt D 0 = c at *
    go_enter Tryd.func146, Tryd.ntmps146
    go_upto_region 3 with fail
    go_quiet (fail)
    have HB1 := hide (below_drewN HB0.out nq)
    generalize (w.alloc (.cells #[.int .i64 (K : Int), .string D, .int .i64 n] 149)).drewN nq = w1 at *
    generalize D.extract 1 D.size = Bh at *
    go_wp2_with fail
    go_ret
    exact HNo.out _ HB1.out HN.out
  have hle : ¬ (((D.extract 1 D.size).size : Nat) : Int) < (bt D 0 : Int) * 4 := by omega
  have hle2 : (bt D 0 : Int) * 4 ≤ (((D.extract 1 D.size).size : Nat) : Int) := by omega
  have v2 : ((bt D 0 : Int) * 4).toNat = 4 * bt D 0 := by omega
  have v3 : (0 : Int) ≤ (bt D 0 : Int) * 4 := by omega
  obtain ⟨x1, x2⟩ := ext_bh D (4 * bt D 0) (by omega)
  rw [hlD] at x1 x2
  have hWz : ((D.extract 1 D.size).extract 0 (4 * bt D 0)).size ≤ maxLen := by rw [ByteArray.size_extract]; unfold maxLen; omega
  have HRd := hide (fun w' (hb : Below w.heap.size w w') => blkRead_any ((D.extract 1 D.size).extract 0 (4 * bt D 0)) w' (ht.below ht.pos hb) hWz)
  have hPz : ((D.extract 1 D.size).extract (4 * bt D 0) (D.extract 1 D.size).size).size ≤ 2000000 := by rw [ByteArray.size_extract]; omega
  have HCl := hide (fun w' => clone_any ((D.extract 1 D.size).extract (4 * bt D 0) (D.extract 1 D.size).size) w' hPz)
  have HZ := hide hbz; have HZq := hide hzq; have HX1 := hide x1; have HX2 := hide x2
  have HQe := hide hqe; have HCl2 := hide hcl
  clear hbz hzq hc0 hlD hqbT hqbF x1 x2 hqe hcl
  generalize bt D 0 = c at *
  go_enter Tryd.func146, Tryd.ntmps146
  go_upto_region 3 with fail
  go_quiet (fail)
  have HB1 := hide (below_drewN HB0.out nq)
  generalize (w.alloc (.cells #[.int .i64 (K : Int), .string D, .int .i64 n] 149)).drewN nq = w1 at *
  generalize D.extract 1 D.size = Bh at *
  go_wp2_with fail
  refine (unhide HRd _ HB1.out).mono ?_
  rintro e w2 ⟨hb2, ⟨hok, rfl⟩ | ⟨hno, rfl⟩⟩
  rotate_left
  · have HN : Hid (R = none) := HR.out (fun hh => hno (by
      have := (blkB_iff _).1 hh.2.2
      rw [← HX1.out, bya_lst] at this
      exact this))
    have HB2 : Hid (Below w.heap.size w w2) := HB1.out.trans (hb2.mono HB1.out.size)
    have HB3 : Hid (Below w.heap.size w (w2.alloc (.cells (S (wdZ [])) 127))) := HB2.out.alloc HB2.out.size _
    have z9 := zero9
    clear hb2 hno HRd HCl
    go_wp2_with (refine wpList_storeR size9 rfl _ _ rfl w2.heap.size rfl (wdZ []) rfl rfl (by rw [isRowB_alloc_at _ _ _ _ _ rfl]; rfl) _ (setRow_alloc_at _ _ _ _ _ rfl) ?_)
    go_ret
    exact HNo.out _ HB3.out HN.out
  have hwl : (blkL (Bh.extract 0 (4 * c)) ((Bh.extract 0 (4 * c)).size / 4)).length ≤ 8 := by rw [blkL_len]; have := hok.2.1; omega
  have hwb := blkL_bd (Bh.extract 0 (4 * c)) ((Bh.extract 0 (4 * c)).size / 4)
  have HTx := hide (fun w' => wdText_any (blkL (Bh.extract 0 (4 * c)) ((Bh.extract 0 (4 * c)).size / 4)) w' hwl hwb)
  rw [wds_lst hok.2.2.1] at HTx
  have hzl := wdZ_len hwl
  have HRs : Hid (R = some ⟨a.gen, a.whole, a.good + (q.length + 8), a.list ++ [(lst (Bh.extract 0 (4 * c)), lst (Bh.extract (4 * c) Bh.size))]⟩) := by
    unfold Hid
    rw [HX1.out, HX2.out]
    refine HY.out ⟨HQe.out, by have := HCl2.out; omega, (blkB_iff _).2 ?_⟩
    rw [← HX1.out, bya_lst]
    exact hok
  have HB2 : Hid (Below w.heap.size w w2) := HB1.out.trans (hb2.mono HB1.out.size)
  have HB3 : Hid (Below w.heap.size w (w2.alloc (.cells (S (wdZ (blkL (Bh.extract 0 (4 * c)) ((Bh.extract 0 (4 * c)).size / 4)))) 127))) := HB2.out.alloc HB2.out.size _
  have HWd : Hid (RowI (w2.alloc (.cells (S (wdZ (blkL (Bh.extract 0 (4 * c)) ((Bh.extract 0 (4 * c)).size / 4)))) 127)) w2.heap.size 127 (wdZ (blkL (Bh.extract 0 (4 * c)) ((Bh.extract 0 (4 * c)).size / 4)))) := _root_.Go.heap_alloc_new w2 _
  have z9 := zero9
  have hz2 := HB2.out.size
  clear hb2 hok HRd HR HY HX1 HX2 hwl hwb
  generalize wdZ (blkL (Bh.extract 0 (4 * c)) ((Bh.extract 0 (4 * c)).size / 4)) = zw at *
  go_wp2_with (refine wpList_storeR size9 rfl _ _ rfl w2.heap.size rfl zw rfl hzl (by rw [isRowB_alloc_at _ _ _ _ _ rfl]; rfl) _ (setRow_alloc_at _ _ _ _ _ rfl) ?_)
  refine (unhide HCl _).mono ?_
  rintro e w4 ⟨rfl, hb4⟩
  have hz4 := hb4.size
  rw [size_alloc1] at hz4
  have HB4 : Hid (Below w.heap.size w w4) := HB3.out.trans (hb4.mono (by rw [size_alloc1]; omega))
  have a4 := h.above HB4.out
  have r4 := HWd.out.keep (hb4.block _ (by rw [size_alloc1]; omega))
  have HR4 := hide r4
  have c3 : w4.cell? ⟨A, 3, none⟩ = some v := a4.cell 3
  have HA4 := hide a4
  clear hb4 a4 r4 HCl
  go_upto_region 10 with fail
  refine held_pick [0, 1, 2, 3, 4, 5, 7] [6, 8, 9, 10, 11, 12, 13] 11 (fun w' => w'.cell? ⟨A, 3, none⟩ = some v ∧ RowI w' w2.heap.size 127 zw) (by kernel_rfl) (by kernel_rfl) (fun d _ _ _ _ h => by cases d <;> exact h) ⟨c3, HR4.out⟩ ?_
  iterate 5
    refine wpTakeI_step ?_ rfl rfl ?_ ?_
    rotate_left
    · rintro w' ⟨d0, d1⟩
      go_simp
      rfl
    go_simp
  refine ⟨_, .agg (S zw), rfl, yieldsIf_load_mid rfl 127 _ rfl w2.heap.size 0 rfl (zw.map (Value.int .i64)) _ (fun w' hS => by have := range_row hS.2 0 9 (by omega); rw [List.drop_zero, List.take_of_length_le (by omega)] at this; exact this) Tryd.underlying127 rfl (by rw [size9, List.length_map, hzl]), ?_⟩
  go_simp
  refine wpTakeI_step ?_ rfl rfl ?_ ?_
  rotate_left
  · rintro w' ⟨d0, d1⟩
    go_simp
    rfl
  go_simp
  refine wpTakeI_nil ?_
  refine wpTailI_step rfl rfl (fun K hK => ?_)
  go_simp
  refine (unhide HTx _).mono ?_
  rintro e w5 ⟨rfl, hb5⟩
  rw [bya_lst]
  have HB5 : Hid (Below w4.heap.size w4 w5) := (show Below w4.heap.size w4 w4.drew from (Below.refl _ w4).drew).trans hb5
  have hA4 : A < w4.heap.size := by have := HB4.out.size; omega
  have a5 := HA4.out.above HB5.out
  have HA5 := hide a5
  have c5 : w5.cell? ⟨A, 3, none⟩ = some v := a5.cell 3
  have HR5 := hide (HR4.out.keep (HB5.out.block _ (by omega)))
  refine hK _ _ (fun _ => ⟨c5, HR5.out⟩) ?_
  clear hK K hb5 a5 HTx
  refine wpTailI_step rfl rfl (fun K hK => ?_)
  go_simp
  refine hK _ _ (fun _ => ⟨c5, HR5.out⟩) ?_
  clear hK K
  have hz5 := HB5.out.size
  have HOv := hide h.list
  refine wpTailI_step rfl rfl (fun K hK => ?_)
  go_simp
  refine hK _ _ (fun _ => ⟨(World.cell?_of_block (Below.heap_alloc w5 _ A (by omega))).trans c5, HR5.out.keep (Below.heap_alloc w5 _ _ (by omega))⟩) ?_
  clear hK K
  refine wpTailI_step rfl rfl (fun K hK => ?_)
  refine wp_append_lies _ _ _ 70 rfl (A + 1) 72 inf _ 2 32 Tryd.underlying70 HInf.out HZi.out HSz.out HBy.out rfl (by decide) v a.list.length (knCs a.list) rfl (HA5.out.list.alloc _) ⟨w5.heap.size, 0, none⟩ 1 1 [.string (Bh.extract 0 (4 * c)), .string (Bh.extract (4 * c) Bh.size)] rfl rfl (World.news_of_block (_root_.Go.heap_alloc_new w5 _)) (fun u hu => by simp at hu; rcases hu with rfl | rfl <;> rfl) (by decide) (by unfold maxLen; omega) (by omega) (by show A + 1 ≤ (w5.alloc _).heap.size; rw [size_alloc1]; omega) (w5.heap.size + 1) (by show (w5.alloc _).heap.size = _; rw [size_alloc1]) ?_
  intro g cap w6 hown6 hgr hat hlt6
  have hA6 : w6.heap[A]? = w5.heap[A]? := (hgr.block A (by show A < (w5.alloc _).heap.size; rw [size_alloc1]; omega) (fun e => by have := (row_lt HOv.out A e.symm).1; omega)).trans (Below.heap_alloc w5 _ A (by omega))
  have hW6 : w6.heap[w2.heap.size]? = w5.heap[w2.heap.size]? := (hgr.block _ (by show w2.heap.size < (w5.alloc _).heap.size; rw [size_alloc1]; omega) (fun e => by have := (row_lt HOv.out _ e.symm).2; omega)).trans (Below.heap_alloc w5 _ _ (by omega))
  have c6 : w6.cell? ⟨A, 3, none⟩ = some v := (World.cell?_of_block hA6).trans c5
  have f6 : w6.frozen? ⟨A, 3, none⟩ = false := (World.frozen?_of_block hA6).trans (HA5.out.frozen 3)
  refine hK _ _ (fun _ => ⟨c6, HR5.out.keep hW6⟩) ?_
  have HO6 := hide hown6; have HGr := hide hgr; have HAt := hide hat; have HA6 := hide hA6; have HLt := hide hlt6
  clear hown6 hgr hat hK K hA6 hW6 hlt6
  refine wpTailI_step rfl rfl (fun K hK => ?_)
  go_simp
  refine hK _ _ (fun h => absurd h (by decide)) ?_
  clear hK K
  refine wpTailI_step rfl rfl (fun K hK => ?_)
  go_simp
  refine hK _ _ (fun h => absurd h (by decide)) ?_
  clear hK K
  refine wpTailI_step rfl rfl (fun K hK => ?_)
  go_simp
  refine hK _ _ (fun h => absurd h (by decide)) ?_
  clear hK K
  refine wpTailI_nil ?_
  go_wp2_with fail
  go_ret
  have hzz : w.heap.size ≤ w4.heap.size := HB4.out.size
  have B5 : Below w.heap.size w w5 := HB4.out.trans (HB5.out.mono hzz)
  have BA : Below A w w6 := ((B5.mono (Nat.le_of_lt hA)).alloc (by omega) _).grown HGr.out (by rw [size_alloc1]; omega) (fun q hq => by have := (row_lt HOv.out q hq).1; omega)
  refine ⟨⟨BA.setCell (p := ⟨A, 3, none⟩) (Nat.le_refl _) _, fun g' hg hn ho => ?_⟩, .inl ⟨_, .slice (some ⟨g, 0, none⟩) (a.list.length + 1) cap, HRs.out, rfl, ⟨?_, ?_⟩, fun g' hg' => ?_⟩⟩
  · refine (heap_set_other _ _ hn).trans (((HGr.out.block g' (by rw [size_alloc1]; omega) (fun e => ho e.symm)).trans (Below.heap_alloc w5 _ _ (by omega))).trans (B5.block g' hg))
  · have hcA : w6.heap[A]? = some (.cells (arV a.gen a.whole a.good v) 74 (0, 0)) := HA6.out.trans HA5.out.cells
    obtain ⟨hlt, hk⟩ := Array.getElem?_eq_some_iff.1 hcA
    show (w6.heap.modify A _)[A]? = _
    rw [Array.getElem?_eq_getElem (by rw [Array.size_modify]; exact hlt), Array.getElem_modify_self, hk]
    rfl
  · have e : knCs (a.list ++ [(lst (Bh.extract 0 (4 * c)), lst (Bh.extract (4 * c) Bh.size))]) = knCs a.list ++ [.string (Bh.extract 0 (4 * c)), .string (Bh.extract (4 * c) Bh.size)] := by rw [knCs_snoc, bya_lst, bya_lst]
    show World.ownsRow _ _ _ _ _ (a.list ++ [_]).length (knCs (a.list ++ [_]))
    rw [e, List.length_append]
    refine ownsRow_keep HO6.out (fun g' hg' => heap_set_other _ _ (fun e => ?_))
    have := (row_lt HO6.out g' hg').1
    omega
  · have hgg : g = g' := by simpa [Value.ownBlock] using hg'
    subst hgg
    rcases HAt.out with h | h
    · exact .inl h
    · exact .inr (by omega)
end Go.Proofs.YtmmflekajbeamaaDoor

namespace Go.Proofs.YtmmflekajbeamaaDoor
open Go.RowKit

theorem arT_open {a : ArN} (h : a.gen = 0) (K : Nat) (q : List UInt8) : arT a K q = rOpen a K q := by unfold arT rOpen; rw [if_pos h]
theorem arT_entry {a : ArN} (h : a.gen ≠ 0) {K : Nat} (hK : K = 2) (q : List UInt8) : arT a K q = rEntry a q := by subst hK; unfold arT rEntry; rw [if_neg h, if_pos rfl]
theorem arT_whole {a : ArN} (h : a.gen ≠ 0) {K : Nat} (hK : K = 3) (q : List UInt8) : arT a K q = rWhole a q := by subst hK; unfold arT rWhole; rw [if_neg h, if_neg (by decide), if_pos rfl]
theorem arT_other {a : ArN} (h : a.gen ≠ 0) {K : Nat} (h2 : K ≠ 2) (h3 : K ≠ 3) (q : List UInt8) : arT a K q = none := by unfold arT; rw [if_neg h, if_neg h2, if_neg h3]
theorem TkPost.up {A : Nat} {a : ArN} {v : Value} {r : Option ArN} {w W1 : World} {e : Ending} {w' : World} (hA : A < w.heap.size) (hb : Below w.heap.size w W1) (h : TkPost A a v r W1 e w') : TkPost A a v r w e w' := by
  obtain ⟨⟨h1, h2⟩, h3⟩ := h
  have hz := hb.size
  refine ⟨⟨(hb.mono (Nat.le_of_lt hA)).trans h1, fun g hg hn ho => (h2 g (by omega) hn ho).trans (hb.block g hg)⟩, ?_⟩
  rcases h3 with ⟨a', v', x1, x2, x3, x4⟩ | x
  · refine .inl ⟨a', v', x1, x2, x3, fun g hg => ?_⟩
    rcases x4 g hg with h | h
    · exact .inl h
    · exact .inr (by omega)
  · exact .inr x
theorem TkPost.form {A : Nat} {a : ArN} {v : Value} {r : Option ArN} {w : World} {e : Ending} {w' : World} (h : TkPost A a v r w e w') : ∃ b, e = .returned (.bool b) := by
  obtain ⟨_, ⟨_, _, _, rfl, _⟩ | ⟨_, rfl, _⟩⟩ := h
  · exact ⟨_, rfl⟩
  · exact ⟨_, rfl⟩

set_option maxRecDepth 100000 in
set_option maxHeartbeats 4000000 in
theorem frTake_any (A : Nat) (a : ArN) (v : Value) (K : Nat) (q : List UInt8) (n : Int) (w : World) (h : ArAt A a v w) (ht : Tab w) (hq2 : q.length ≤ 200) (hal : a.list.length ≤ 2000000) (hgg : a.good = 0 ↔ a.gen = 0) :
    Calls Tryd.prog 111 #[.pointer (some ⟨A, 0, none⟩), .agg #[.int .i64 (K : Int), .string (bya q), .int .i64 n]] w (TkPost A a v (arT a K q) w) := by
  have hA := h.lt
  have hne : ¬ A = w.heap.size := by omega
  have g2 : w.cell? ⟨A, 2, none⟩ = some (.int .i64 (a.good : Int)) := h.cell 2
  obtain ⟨W1, hW1⟩ : ∃ W1, W1 = w.alloc (.cells #[.int .i64 (K : Int), .string (bya q), .int .i64 n] 149) := ⟨_, rfl⟩
  have b1 : Below w.heap.size w W1 := by rw [hW1]; exact (Below.refl _ _).alloc (Nat.le_refl _) _
  have a1 := h.above b1
  have HUp : Hid (∀ r e w', TkPost A a v r W1 e w' → TkPost A a v r w e w') := fun r e w' hp => hp.up hA b1
  have HW := hide hW1
  by_cases h0 : a.good = 0
  · have HC := hide (takeOpen_any A a v K q n W1 a1 (hgg.1 h0))
    rw [← arT_open (hgg.1 h0)] at HC
    rw [h0] at g2
    clear b1 a1 hW1
    generalize arT a K q = R at *
    generalize bya q = D at *
    go_enter Tryd.func111, Tryd.ntmps111
    go_wp2_with fail
    rw [← HW.out]
    refine (unhide HC).mono ?_
    intro e w' hp
    obtain ⟨b, rfl⟩ := hp.form
    have HP := hide (HUp.out _ _ _ hp)
    clear hp
    go_wp2_with fail
    go_ret
    exact HP.out
  have hg0 : a.gen ≠ 0 := fun e => h0 (hgg.2 e)
  have h0' : ((a.good : Int) == 0) = false := by rw [beq_eq_false_iff_ne]; omega
  by_cases h2 : K = 2
  · have HC := hide (takeEntry_any A a v K q n W1 a1 (ht.below ht.pos b1) hq2 hal)
    rw [← arT_entry hg0 h2] at HC
    have h2t : ((K : Int) == 2) = true := by rw [beq_iff_eq]; omega
    clear b1 a1 hW1 h2
    generalize arT a K q = R at *
    generalize bya q = D at *
    go_enter Tryd.func111, Tryd.ntmps111
    go_wp2_with fail
    rw [← HW.out]
    refine (unhide HC).mono ?_
    intro e w' hp
    obtain ⟨b, rfl⟩ := hp.form
    have HP := hide (HUp.out _ _ _ hp)
    clear hp
    go_wp2_with fail
    go_ret
    exact HP.out
  have h2' : ((K : Int) == 2) = false := by rw [beq_eq_false_iff_ne]; omega
  by_cases h3 : K = 3
  · have HC := hide (takeWhole_any A a v K q n W1 a1)
    rw [← arT_whole hg0 h3] at HC
    have h3t : ((K : Int) == 3) = true := by rw [beq_iff_eq]; omega
    clear b1 a1 hW1 h3 h2
    generalize arT a K q = R at *
    generalize bya q = D at *
    go_enter Tryd.func111, Tryd.ntmps111
    go_wp2_with fail
    rw [← HW.out]
    refine (unhide HC).mono ?_
    intro e w' hp
    obtain ⟨b, rfl⟩ := hp.form
    have HP := hide (HUp.out _ _ _ hp)
    clear hp
    go_wp2_with fail
    go_ret
    exact HP.out
  have h3' : ((K : Int) == 3) = false := by rw [beq_eq_false_iff_ne]; omega
  have HP : Hid (TkPost A a v (arT a K q) w (.returned (.bool false)) W1) := ⟨TkFr.of_above hA b1, .inr ⟨arT_other hg0 h2 h3 q, rfl, a1⟩⟩
  clear b1 a1 hW1 h2 h3
  generalize arT a K q = R at *
  generalize bya q = D at *
  go_enter Tryd.func111, Tryd.ntmps111
  go_wp2_with fail
  go_ret
  rw [← HW.out]
  exact HP.out
end Go.Proofs.YtmmflekajbeamaaDoor
