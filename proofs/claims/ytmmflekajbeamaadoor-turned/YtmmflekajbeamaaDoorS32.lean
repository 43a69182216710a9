/-
  Translates: what a translating leaves.
  Translates: the program's own Translate (translator.Translate, crib.Translate).
  THE LAW Turned, walked: it answers true, for every state, put and number.
  The table of instructions, as the card's condition tells it, is the table that the walks read; and the program's own start-up meets that condition. Shared by the cards.
-/
import Derived.Test.YtmmflekajbeamaaDoorS30
import Derived.Test.YtmmflekajbeamaaDoorS31
import Derived.Test.YtmmflekajbeamaaDoorS24
import Derived.Test.YtmmflekajbeamaaDoorS29
import Derived.BigQuiet
import Derived.Test.YtmmflekajbeamaaDoorS04
import Derived.Test.YtmmflekajbeamaaDoorCards
import Derived.Test.YtmmflekajbeamaaDoorTie
import Derived.ProofKit
import Derived.LaidMore
import Derived.OpenShut
import Derived.Stop.Joined
import Derived.Deep.Strs
import Derived.SevenTiedAt
import Derived.ChangeMaps5
namespace Go.Proofs.YtmmflekajbeamaaDoor
open Go.RowKit

/-- What a translating leaves. -/
def TrPost (s : ByteArray) (w : World) (e' : Ending) (w' : World) : Prop :=
  Below w.heap.size w w' ∧ ((blkOK s ∧ e' = .returned (.tuple #[.string (bya (planT (ownP s))), .int .i64 0])) ∨ (¬ blkOK s ∧ e' = .returned (.tuple #[.string (bya []), .int .i64 10])))
theorem TrPost.form {s : ByteArray} {w w' : World} {e : Ending} (h : TrPost s w e w') : ∃ D n, e = .returned (.tuple #[.string D, .int .i64 n]) := by
  obtain ⟨_, ⟨_, rfl⟩ | ⟨_, rfl⟩⟩ := h
  · exact ⟨_, _, rfl⟩
  · exact ⟨_, _, rfl⟩
theorem TrPost.one {s : ByteArray} {w1 w2 w1' w2' : World} {e1 e2 : Ending} (h1 : TrPost s w1 e1 w1') (h2 : TrPost s w2 e2 w2') : e1 = e2 := by
  obtain ⟨_, ⟨a, rfl⟩ | ⟨a, rfl⟩⟩ := h1 <;> obtain ⟨_, ⟨c, rfl⟩ | ⟨c, rfl⟩⟩ := h2
  all_goals first | rfl | exact absurd a c | exact absurd c a
end Go.Proofs.YtmmflekajbeamaaDoor

namespace Go.Proofs.YtmmflekajbeamaaDoor
open Go.RowKit

theorem withoutIdle_any (B : Nat) (pa : Option Addr) (pc : Nat) (ps : List PutN) (w : World) (ho : w.ownsRow B 59 5 (.slice pa ps.length pc) ps.length (putCs ps)) (hl : ps.length ≤ 8) (hw : ∀ p ∈ ps, okB p) :
    Calls Tryd.prog 100 #[.slice pa ps.length pc] w fun e' w' => Below w.heap.size w w' ∧ ∃ v, e' = .returned v ∧ w'.ownsRow w.heap.size 59 5 v (idle ps).length (putCs (idle ps)) :=
  callsIn_wide.1 (withoutIdle_in B pa pc ps w ho hl hw)

set_option maxRecDepth 100000 in
set_option maxHeartbeats 2000000 in
theorem trTranslate_any (s : ByteArray) (w : World) (ht : Tab w) (hs : s.size ≤ maxLen) :
    Calls Tryd.prog 58 #[.string s] w (TrPost s w) := by
  have z9 := zero9
  have HRd := hide (blkRead_any s w ht hs)
  have HTb := hide ht
  have hpos := ht.pos
  clear ht
  go_enter Tryd.func58, Tryd.ntmps58
  go_wp2_with fail
  refine (unhide HRd).mono ?_
  rintro e w1 ⟨hb1, ⟨hok, rfl⟩ | ⟨hno, rfl⟩⟩
  · have HB1 := hide hb1; have HOk := hide hok
    have hz1 := hb1.size
    have h8 : s.size / 4 ≤ 8 := by have := hok.2.1; omega
    have hzl := wdZ_len (ws := blkL s (s.size / 4)) (by rw [blkL_len]; exact h8)
    obtain ⟨W3, hW3⟩ : ∃ W3, W3 = w1.alloc (.cells (S (wdZ (blkL s (s.size / 4)))) 127) := ⟨_, rfl⟩
    have HW := hide hW3
    have r3 : RowI W3 w1.heap.size 127 (wdZ (blkL s (s.size / 4))) := by unfold RowI; rw [hW3, _root_.Go.heap_alloc_new]
    have h3b : Below w.heap.size w W3 := by rw [hW3]; exact hb1.alloc hz1 _
    have H3B := hide h3b
    have rI := r3.isRow 9 hzl
    have rD := r3.rowD
    have h3z : w.heap.size ≤ W3.heap.size := h3b.size
    have HPl := hide (plain_list (blkL s (s.size / 4)) W3 (HTb.out.below hpos h3b) (by rw [blkL_len]; exact h8) (blkL_bd s _))
    clear hb1 hok HRd hW3 h3b r3
    go_wp2_with (first | (refine wpList_storeR size9 rfl _ _ rfl w1.heap.size rfl (wdZ (blkL s (s.size / 4))) rfl hzl (by rw [isRowB_alloc_at _ _ _ _ _ rfl]; rfl) _ (setRow_alloc_at _ _ _ _ _ rfl) ?_) | (refine wpList_loadR rfl Tryd.underlying127 size9 rfl _ rfl w1.heap.size rfl (by rw [← HW.out]; exact rI) (S (wdZ (blkL s (s.size / 4)))) (by rw [← HW.out]; exact rD) ?_))
    rw [← HW.out]
    refine (unhide HPl).mono ?_
    rintro e w4 ⟨hb4, fv, rfl, hfo⟩
    rw [plN_nPl HOk.out, blkL_take s (nPl_le s)] at hfo
    have HOf := hide (ofWords_any _ fv (blkL s (nPl s)) w4 (own_take hfo (blkL_len s _).symm) (by rw [blkL_len]; exact Nat.le_trans (nPl_le s) h8))
    have HB4 : Hid (Below w.heap.size w w4) := H3B.out.trans (hb4.mono h3z)
    have hz4 := hb4.size
    clear hb4 hfo HPl rI rD
    go_wp2_with fail
    refine (unhide HOf).mono ?_
    rintro e w5 ⟨hb5, pv1, rfl, hpo1⟩
    rw [pwL_blk, blkL_len, ← nPl_len] at hpo1
    have hn8 : (blkPuts s).length ≤ 8 := by rw [nPl_len]; exact Nat.le_trans (nPl_le s) h8
    have HK := hide (withKnown_any _ pv1 (blkPuts s) w5 hpo1 hn8 (blkPuts_okB HOk.out))
    have HB5 : Hid (Below w.heap.size w w5) := HB4.out.trans (hb5.mono (by omega))
    have hz5 := hb5.size
    clear hb5 hpo1 HOf
    go_wp2_with fail
    refine (unhide HK).mono ?_
    rintro e w6 ⟨hb6, pv2, rfl, hpo2⟩
    obtain ⟨hkk, hkl⟩ := wKn_ok (blkPuts_okB HOk.out)
    obtain ⟨pa, pc, hpv2⟩ := owns_len hpo2
    subst hpv2
    have HWi := hide (withoutIdle_any _ pa pc (wKn (blkPuts s)) w6 hpo2 (by rw [hkl]; exact hn8) hkk)
    have HB6 : Hid (Below w.heap.size w w6) := HB5.out.trans (hb6.mono (by omega))
    have hz6 := hb6.size
    clear hb6 hpo2 HK hkk hkl hn8
    go_wp2_with fail
    refine (unhide HWi).mono ?_
    rintro e w7 ⟨hb7, pv3, rfl, hpo3⟩
    obtain ⟨hoo, hol⟩ := ownP_ok HOk.out
    have HTx := hide (planText_any _ pv3 (ownP s) w7 hpo3 (Nat.le_trans hol (Nat.le_trans (nPl_le s) h8)) hoo)
    have HB7 : Hid (Below w.heap.size w w7) := HB6.out.trans (hb7.mono (by omega))
    have hz7 := hb7.size
    clear hb7 hpo3 HWi hoo hol
    go_wp2_with fail
    refine (unhide HTx).mono ?_
    rintro e w8 ⟨rfl, hb8⟩
    have HB8 : Hid (Below w.heap.size w w8) := HB7.out.trans (hb8.mono (by omega))
    clear hb8 HTx
    go_wp2_with fail
    go_ret2
    exact ⟨HB8.out, .inl ⟨HOk.out, rfl⟩⟩
  · have HB1 := hide hb1; have HNo := hide hno
    have hz1 := hb1.size
    clear hb1 hno HRd
    go_wp2_with (refine wpList_storeR size9 rfl _ _ rfl w1.heap.size rfl (wdZ []) rfl rfl (by rw [isRowB_alloc_at _ _ _ _ _ rfl]; rfl) _ (setRow_alloc_at _ _ _ _ _ rfl) ?_)
    go_ret2
    exact ⟨HB1.out.alloc hz1 _, .inr ⟨HNo.out, rfl⟩⟩

set_option maxRecDepth 100000 in
theorem cribTranslate_any (s : ByteArray) (w : World) (ht : Tab w) (hs : s.size ≤ maxLen) :
    Calls Tryd.prog 26 #[.string s] w (TrPost s w) := by
  have HC := hide (trTranslate_any s w ht hs)
  clear ht
  go_enter Tryd.func26, Tryd.ntmps26
  go_wp2_with fail
  refine (unhide HC).mono ?_
  intro e w1 hpost
  obtain ⟨D, n, rfl⟩ := hpost.form
  have HP := hide hpost
  clear hpost
  go_wp2_with fail
  go_ret2
  exact HP.out
end Go.Proofs.YtmmflekajbeamaaDoor

namespace Go.Proofs.YtmmflekajbeamaaDoor
open Go.RowKit

theorem bya_is (t : ByteArray) (x : List UInt8) (h : t.data.toList = x) : t = bya x := by
  subst h
  cases t
  simp [bya]
theorem bya_ext (l : List UInt8) (a b : Nat) : (bya l).extract a b = bya ((l.drop a).take (b - a)) := by
  refine bya_is _ _ ?_
  rw [ByteArray.data_extract, Array.toList_extract, List.extract_eq_take_drop, bya_list]
theorem planT_cons (p : PutN) (l : List PutN) : planT (p :: l) = putT p ++ planT l := by simp [planT]
theorem planT_take' (ps : List PutN) : ∀ j, planT (ps.take j) = (planT ps).take (8 * j) := by
  induction ps with
  | nil => intro j; simp [planT]
  | cons p ps ih =>
    intro j
    cases j with
    | zero => simp [planT]
    | succ j =>
      have a : (putT p).take (8 * (j + 1)) = putT p := List.take_of_length_le (by rw [putT_len]; omega)
      rw [List.take_succ_cons, planT_cons, planT_cons, ih, List.take_append, a, putT_len, show 8 * (j + 1) - 8 = 8 * j by omega]
theorem planT_drop' (ps : List PutN) : ∀ j, planT (ps.drop j) = (planT ps).drop (8 * j) := by
  induction ps with
  | nil => intro j; simp [planT]
  | cons p ps ih =>
    intro j
    cases j with
    | zero => simp [planT]
    | succ j =>
      have a : (putT p).drop (8 * (j + 1)) = [] := List.drop_of_length_le (by rw [putT_len]; omega)
      rw [List.drop_succ_cons, planT_cons, ih, List.drop_append, a, List.nil_append, putT_len, show 8 * (j + 1) - 8 = 8 * j by omega]
/-- The own plan with a put more. -/
def moreP (os : List PutN) (j : Nat) (q : PutN) : List PutN := os.take j ++ (q :: os.drop j)
theorem moreP_txt (os : List PutN) (j : Nat) (q : PutN) : (bya (planT os)).extract 0 (8 * j) ++ bya (putT q) ++ (bya (planT os)).extract (8 * j) (bya (planT os)).size = bya (planT (moreP os j q)) := by
  have hl := planT_len os
  have a : ((planT os).drop (8 * j)).take ((planT os).length - 8 * j) = (planT os).drop (8 * j) := List.take_of_length_le (by rw [List.length_drop]; omega)
  rw [bya_ext, bya_ext, bya_app, bya_app, bya_size, List.drop_zero, Nat.sub_zero, ← planT_take', a, ← planT_drop']
  unfold moreP planT
  simp
theorem moreP_len (os : List PutN) (j : Nat) (q : PutN) (hj : j ≤ os.length) : (moreP os j q).length = os.length + 1 := by unfold moreP; simp; omega
theorem moreP_mem {os : List PutN} {j : Nat} {q x : PutN} (h : x ∈ moreP os j q) : x = q ∨ x ∈ os := by
  unfold moreP at h
  rcases List.mem_append.1 h with h | h
  · exact .inr (List.mem_of_mem_take h)
  · rcases List.mem_cons.1 h with h | h
    · exact .inl h
    · exact .inr (List.mem_of_mem_drop h)
theorem moreP_at (os : List PutN) (j : Nat) (q : PutN) (hj : j ≤ os.length) : (moreP os j q)[j]? = some q := by
  unfold moreP
  rw [List.getElem?_append_right (by rw [List.length_take]; omega), List.length_take, Nat.min_eq_left hj, Nat.sub_self]
  rfl
theorem moreP_end (os : List PutN) (q : PutN) : moreP os os.length q = os ++ [q] := by unfold moreP; simp
theorem putT_get (q : PutN) (hb : bdP q) : (bya (putT q)).size = 8 ∧ bt (bya (putT q)) 0 = q.kind ∧ bt (bya (putT q)) 1 = q.d ∧ bt (bya (putT q)) 2 = q.a ∧ bt (bya (putT q)) 3 = q.b ∧ beN (bya (putT q)) 4 4 = q.k := by
  have h := putAt_plan (ps := [q]) (j := 0) (p := q) rfl hb
  have e : planT [q] = putT q := by simp [planT]
  rw [e, Nat.mul_zero] at h
  unfold putAt at h
  obtain ⟨k, d, a, b, c⟩ := q
  simp only [PutN.mk.injEq, Nat.zero_add] at h
  exact ⟨by rw [bya_size, putT_len], h.1, h.2.1, h.2.2.1, h.2.2.2.1, h.2.2.2.2⟩

set_option maxRecDepth 100000 in
set_option maxHeartbeats 8000000 in
theorem turned_any (z : List Int) (pk' pd pa pb pc' : Int) (at' : Int) (w : World) (ht : Tab w) (hz : z.length = 138) (hb : ∀ x ∈ z, -9223372036854775808 ≤ x ∧ x ≤ 9223372036854775807)
    (bk : -9223372036854775808 ≤ pk' ∧ pk' ≤ 9223372036854775807) (bd : -9223372036854775808 ≤ pd ∧ pd ≤ 9223372036854775807) (ba : -9223372036854775808 ≤ pa ∧ pa ≤ 9223372036854775807) (bb : -9223372036854775808 ≤ pb ∧ pb ≤ 9223372036854775807) (bc : -9223372036854775808 ≤ pc' ∧ pc' ≤ 9223372036854775807) (bat : -9223372036854775808 ≤ at' ∧ at' ≤ 9223372036854775807) :
    Calls Tryd.prog 9 #[.agg (S z), .agg (S [pk', pd, pa, pb, pc']), .int .i64 at'] w fun e' w' => e' = .returned (.bool true) ∧ Below w.heap.size w w' := by
  have HT := hide (fun w' (hb : Below w.heap.size w w') => ht.below ht.pos hb)
  obtain ⟨W1, hW1⟩ : ∃ W1, W1 = (w.alloc (.cells (S z) 34)).alloc (.cells (S [pk', pd, pa, pb, pc']) 59) := ⟨_, rfl⟩
  have HW := hide hW1
  have r1 : RowI W1 w.heap.size 34 z := by unfold RowI; rw [hW1, Below.heap_alloc _ _ _ (by rw [size_alloc1]; omega), _root_.Go.heap_alloc_new]
  have t1 : RowI W1 (w.heap.size + 1) 59 [pk', pd, pa, pb, pc'] := by
    unfold RowI
    rw [hW1]
    have := _root_.Go.heap_alloc_new (w.alloc (.cells (S z) 34)) (.cells (S [pk', pd, pa, pb, pc']) 59)
    rw [size_alloc1] at this
    exact this
  have b1 : Below w.heap.size w W1 := by rw [hW1]; exact ((Below.refl _ _).alloc (Nat.le_refl _) _).alloc (by rw [size_alloc1]; omega) _
  have hz1 : w.heap.size + 1 < W1.heap.size := t1.lt
  have HK := hide (known_true W1 (HT.out _ b1))
  have HF := hide (fun w' => fit_any z w' hz hb)
  obtain ⟨regs, mem, pc, hfz, hr, hm, hpc⟩ := fitZ_form hz
  rw [← stZ_zero hpc] at hfz
  have hlF : (fitZ z).length = 138 := by rw [hfz]; exact stZ_len hr hm hpc 0
  have hin : inM mem (pc : Int) := ⟨WL_allW hm, by omega, by omega⟩
  have HBl : Hid (∀ w', Below w.heap.size w w' → Calls Tryd.prog 25 #[.agg (S mem), .int .i64 (pc : Int)] w' fun e' w'' => Below w'.heap.size w' w'' ∧ e' = .returned (.tuple #[.string (bya (blkTxt mem pc)), .int .i64 0])) := fun w' hb => (cribBlock_any mem (pc : Int) w' (HT.out _ hb) hm.1).mono fun e w'' h => by
    obtain ⟨h1, ⟨_, rfl⟩ | ⟨h2, _⟩⟩ := h
    · exact ⟨h1, by rw [Int.toNat_natCast]⟩
    · exact absurd hin h2
  have hok := blk_ok hm hpc
  have hsz : (bya (blkTxt mem pc)).size ≤ maxLen := by have := hok.2.1; unfold maxLen; omega
  have HTr : Hid (∀ w', Below w.heap.size w w' → Calls Tryd.prog 26 #[.string (bya (blkTxt mem pc))] w' fun e' w'' => Below w'.heap.size w' w'' ∧ e' = .returned (.tuple #[.string (bya (planT (ownP (bya (blkTxt mem pc))))), .int .i64 0])) := fun w' hb => (cribTranslate_any (bya (blkTxt mem pc)) w' (HT.out _ hb) hsz).mono fun e w'' h => by
    obtain ⟨h1, ⟨_, rfl⟩ | ⟨h2, _⟩⟩ := h
    · exact ⟨h1, rfl⟩
    · exact absurd hok h2
  have hoB := own_bd hok
  obtain ⟨_, hoL⟩ := ownP_ok hok
  have hn8 : nPl (bya (blkTxt mem pc)) ≤ 8 := by have := nPl_le (bya (blkTxt mem pc)); have := hok.2.1; omega
  have hOc := own_come hok
  have hol8 : (ownP (bya (blkTxt mem pc))).length ≤ 8 := by omega
  have HDp := hide (fun p w' (hb : Below w.heap.size w w') hp hpo hco => keepDoes_any regs mem pc p w' (HT.out _ hb) hr hm hpc hp hpo hco)
  have HAp := hide (fun p w' (hb : Below w.heap.size w w') hp => cribAccept_any (bya (blkTxt mem pc)) p w' (HT.out _ hb) hsz hp)
  have q1 : ((stZ regs mem pc 0).drop 8).take 128 = mem := by rw [stZ_zero hpc]; exact mkZ_mems _ _ hr.1 hm.1
  have q6 : gz (stZ regs mem pc 0) 136 = (pc : Int) := by rw [stZ_zero hpc]; exact mkZ_pc hr.1 hm.1
  have s128 : (Tryd.prog.info? 32).map (·.size) = some (mem.map (Value.int .i64)).length := by rw [size128, List.length_map, hm.1]
  have HS128 := hide s128
  rw [hfz] at HF hlF
  generalize stZ regs mem pc 0 = zf at *
  generalize bya (blkTxt mem pc) = s at *
  generalize hos : ownP s = os at *
  obtain ⟨q, hq, hqk, hPut⟩ := put_any pk' pd pa pb pc' bk bd ba bb bc
  have hom : (bya (planT os)).size = 8 * os.length := by rw [bya_size, planT_len]
  have hmi : ((bya (planT os)).size : Int) / 8 + 1 = ((os.length + 1 : Nat) : Int) := by omega
  obtain ⟨j, hje, hjl⟩ := pick_nat at' ((os.length + 1 : Nat) : Int) (by omega)
  have hjo : j ≤ os.length := by omega
  have HPi : Hid (∀ w', Calls Tryd.prog 15 #[.int .i64 at', .int .i64 (((bya (planT os)).size : Int) / 8 + 1)] w' fun e' w'' => e' = .returned (.int .i64 (j : Int)) ∧ w'' = w') := fun w' => by
    rw [hmi, ← hje]
    exact pick_any at' _ w' bat.1 bat.2 (by omega) (by omega)
  have HPut := hide hPut
  have hbq := hq.bd hqk
  obtain ⟨t8, t0, t1', t2, t3, t4⟩ := putT_get q hbq
  have hmB : ∀ x ∈ moreP os j q, okPut x ∧ x.k < 4294967296 := fun x hx => by
    rcases moreP_mem hx with rfl | h
    · exact ⟨hq, hqk⟩
    · exact hoB x h
  have hml := moreP_len os j q hjo
  have hPO := putsOK_plan hmB (by omega)
  have hPL := putL_plan (fun x hx => (hmB x hx).1.bd (hmB x hx).2)
  have hps := plan_size (moreP os j q)
  have hat := moreP_at os j q hjo
  have hpsm : (bya (planT (moreP os j q))).size = 8 * (os.length + 1) := by rw [bya_size, planT_len, hml]
  have hpm : (bya (planT (moreP os j q))).size ≤ maxLen := by unfold maxLen; omega
  have HPs := hide (fun w' => cribPuts_any (bya (planT (moreP os j q))) w' hpm)
  have HAd : Hid (∀ n, AccIs s (bya (planT (moreP os j q))) n → (n = 12 ∧ (j < os.length ∨ q.d < 8)) ∨ (n = 0 ∧ (comeS (blkPuts s)).take 8 = (comeS (putL (bya (planT (moreP os j q))) ((bya (planT (moreP os j q))).size / 8))).take 8)) := fun n h => by
    rcases h with ⟨h1, _⟩ | ⟨_, h2, _⟩ | ⟨_, _, h3, h4⟩ | ⟨_, _, h3, h4⟩
    · exact absurd hok h1
    · exact absurd hPO h2
    · exact .inr ⟨h4, h3⟩
    · refine .inl ⟨h4, ?_⟩
      by_cases hjlt : j < os.length
      · exact .inl hjlt
      · by_cases hd8 : q.d < 8
        · exact .inr hd8
        · exfalso
          apply h3
          have hje' : j = os.length := by omega
          rw [hPL, hje', moreP_end, come_more _ _ (by omega)]
          exact hOc
  have HTx := hide (moreP_txt os j q)
  have HDm := hide (fun w' (hb : Below w.heap.size w w') hco => HDp.out (bya (planT (moreP os j q))) w' hb hpm hPO hco)
  have HAm := hide (fun w' (hb : Below w.heap.size w w') => HAp.out (bya (planT (moreP os j q))) w' hb hpm)
  have HPo := hide hPO
  have HRow : Hid (∀ (w' : World) (B : Nat) (v : Value), w'.ownsRow B 59 5 v ((bya (planT (moreP os j q))).size / 8) (putCs (putL (bya (planT (moreP os j q))) ((bya (planT (moreP os j q))).size / 8))) → ∃ g cap, v = .slice (some ⟨g, 0, none⟩) (os.length + 1) cap ∧ w'.cell? ⟨g, j * 5, none⟩ = some (.int .i64 (q.kind : Int)) ∧ w'.cell? ⟨g, j * 5 + 1, none⟩ = some (.int .i64 (q.d : Int)) ∧ w'.cell? ⟨g, j * 5 + 1 + 1, none⟩ = some (.int .i64 (q.a : Int)) ∧ w'.cell? ⟨g, j * 5 + 1 + 1 + 1, none⟩ = some (.int .i64 (q.b : Int)) ∧ w'.cell? ⟨g, j * 5 + 1 + 1 + 1 + 1, none⟩ = some (.int .i64 (q.k : Int))) := fun w' B v h => by
    rw [hPL, hps] at h
    obtain ⟨g, cap, rfl, _, _⟩ := h.form (by omega)
    refine ⟨g, cap, by rw [hml], ?_⟩
    exact put_cells h j q hat
  have hoss : ((bya (planT os)).size : Int) ≤ 64 := by omega
  have hji : 8 * (j : Int) ≤ ((bya (planT os)).size : Int) := by omega
  have hjn : 8 * j ≤ (bya (planT os)).size := by omega
  have HJl : Hid (8 * (j : Int) < ((bya (planT os)).size : Int) ↔ j < os.length) := by unfold Hid; omega
  have hpsI : ((bya (planT (moreP os j q))).size : Int) / 8 = ((os.length + 1 : Nat) : Int) := by omega
  have HPsI := hide hpsI
  have hj9 : (j : Int) < ((os.length + 1 : Nat) : Int) := by omega
  generalize bya (planT (moreP os j q)) = PL at *
  generalize bya (planT os) = own at *
  generalize bya (putT q) = T at *
  generalize os.length = m at *
  obtain ⟨q0, qd, qa, qb, qk⟩ := q
  simp only at t0 t1' t2 t3 t4 HRow HAd hqk
  have HR1 := hide r1; have HB1 := hide b1; have HT1 := hide t1
  have HPos := hide hpsI
  clear ht hb hok hin hOc hPO hPL hoB hoL hr hm s128 hW1 r1 b1 t1 hfz hsz hPut hq hqk hmB hml hps hat hpsm hpm hos hom hmi hje hjl hn8 HDp HAp bk bd ba bb bc bat hpsI
  go_enter Tryd.func9, Tryd.ntmps9
  go_wp2_with fail
  rw [← HW.out]
  refine (unhide HK).mono ?_
  rintro e w2 ⟨rfl, hb2⟩
  have r2 := HR1.out.keep (hb2.block _ (by omega))
  have HT2 := hide (HT1.out.keep (hb2.block _ hz1))
  have HB2 : Hid (Below w.heap.size w w2) := HB1.out.trans (hb2.mono (by omega))
  have rI := r2.isRow 138 hz
  have rD' := r2.rowD
  have hz2 := hb2.size
  have HR2 := hide r2
  clear hb2 r2 HK
  go_wp2_with (refine wpList_load_S rfl _ rfl w.heap.size rfl rI _ rD' ?_)
  refine (unhide HF _).mono ?_
  rintro e w3 ⟨rfl, hb3⟩
  have r3 := HR2.out.keep (hb3.block _ (by omega))
  have t3' := HT2.out.keep (hb3.block _ (by omega))
  have hz3 := hb3.size
  have rI3 := r3.isRow 138 hz
  obtain ⟨W4, hW4⟩ : ∃ W4, W4 = w3.setRow w.heap.size (S zf) := ⟨_, rfl⟩
  have HW4 := hide hW4
  have r4 : RowI W4 w.heap.size 34 zf := by rw [hW4]; exact setRow_heap w3 _ _ _ _ (0, 0) r3
  have HT4 : Hid (RowI W4 (w.heap.size + 1) 59 [pk', pd, pa, pb, pc']) := by unfold Hid; rw [hW4]; exact t3'.row_other _ (by omega)
  have b4 : Below w.heap.size w W4 := by rw [hW4]; exact below_setRow (HB2.out.trans (hb3.mono (by omega))) (Nat.le_refl _) _
  have hz4 : w.heap.size + 1 < W4.heap.size := HT4.out.lt
  have g4 := range_row r4 8 128 (by omega)
  rw [q1] at g4
  have c4 := r4.cell 136 (by omega)
  rw [q6] at c4
  have HR4 := hide r4; have HB4 := hide b4; have HG4 := hide g4
  clear hb3 r3 t3' hW4 r4 b4 g4 rI rD'
  go_wp2_with (first | (refine wpList_store_S rfl _ _ rfl w.heap.size rfl zf rfl hlF rI3 W4 (by rw [← HW4.out]) ?_) | (refine wpList_load_midZ rfl 32 _ rfl w.heap.size 8 rfl mem _ HG4.out Tryd.underlying32 rfl HS128.out ?_))
  refine (unhide HBl _ HB4.out).mono ?_
  rintro e w5 ⟨hb5, rfl⟩
  have HR5 := hide (HR4.out.keep (hb5.block _ (by omega)))
  have HT5 := hide (HT4.out.keep (hb5.block _ hz4))
  have HB5 : Hid (Below w.heap.size w w5) := HB4.out.trans (hb5.mono (by omega))
  have hz5 := hb5.size
  clear hb5 c4 HBl
  go_wp2_with fail
  refine (unhide HTr _ HB5.out).mono ?_
  rintro e w6 ⟨hb6, rfl⟩
  have HR6 := hide (HR5.out.keep (hb6.block _ (by omega)))
  have t6 := HT5.out.keep (hb6.block _ (by omega))
  have HB6 : Hid (Below w.heap.size w w6) := HB5.out.trans (hb6.mono (by omega))
  have hz6 := hb6.size
  have tI := t6.isRow 5 rfl
  have tD := t6.rowD
  clear hb6 HTr t6
  go_wp2_with fail
  refine (unhide HPi _).mono ?_
  rintro e w' ⟨rfl, hw⟩
  obtain rfl := hw.symm
  clear HPi
  go_wp2_with (refine wpList_loadR rfl Tryd.underlying59 size59 rfl _ rfl (w.heap.size + 1) rfl tI _ tD ?_)
  refine (unhide HPut _).mono ?_
  rintro e w7 ⟨rfl, hb7⟩
  have HR7 := hide (HR6.out.keep (hb7.block _ (by omega)))
  have HB7 : Hid (Below w.heap.size w w7) := HB6.out.trans (hb7.mono (by omega))
  have hz7 := hb7.size
  clear hb7 HPut tI tD
  have hi8 : 8 * (j : Int) = ((8 * j : Nat) : Int) := by omega
  have hj5 : (((8 * j : Nat) : Int)) / 8 = (j : Int) := by omega
  rw [hi8]
  rw [hi8] at HJl
  obtain ⟨i, hi⟩ : ∃ i, i = 8 * j := ⟨_, rfl⟩
  rw [← hi] at HTx hjn HJl hj5 ⊢
  have e1s : (own.extract 0 i).size ≤ 64 := by rw [ByteArray.size_extract]; omega
  have e2s : (own.extract i own.size).size ≤ 64 := by rw [ByteArray.size_extract]; omega
  have c1 : ∀ w', (Op.stringOp .add (own.extract 0 i) T).run Tryd.prog w' = .ok (.string (own.extract 0 i ++ T)) w' := fun w' => run_string_add_sum w' _ T (by omega)
  have c2 : ∀ w', (Op.stringOp .add (own.extract 0 i ++ T) (own.extract i own.size)).run Tryd.prog w' = .ok (.string PL) w' := fun w' => by
    rw [← HTx.out]
    exact run_string_add_sum w' _ _ (by simp only [ByteArray.size_append]; omega)
  have hjn' : (i : Int) ≤ (own.size : Int) := by omega
  clear hi8 hi hji e1s e2s HTx
  go_upto_region 9 with fail
  go_quiet (fail)
  go_wp2_with fail
  refine (unhide HPs _).mono ?_
  rintro e w8 ⟨hb8, ⟨_, v, rfl, hown⟩ | ⟨hno, _⟩⟩
  rotate_left
  · exact absurd HPo.out hno
  obtain ⟨g, cap, rfl, x0, x1, x2, x3, x4⟩ := HRow.out _ _ _ hown
  have HR8 := hide (HR7.out.keep (hb8.block _ (by show w.heap.size < w7.heap.size; omega)))
  have HB8 : Hid (Below w.heap.size w w8) := HB7.out.trans ((show Below w7.heap.size w7 w8 from (below_drewN (Below.refl _ w7) nq).trans hb8).mono (by omega))
  have hz8 : w7.heap.size ≤ w8.heap.size := hb8.size
  have HV := hide (fun w' => keepValue_any T 4 4 w' (by decide) (by omega) (by omega))
  rw [t4] at HV
  have y0 : T[0].toNat = q0 := (bt_get T 0 (by omega)).trans t0
  have y1 : T[1].toNat = qd := (bt_get T 1 (by omega)).trans t1'
  have y2 : T[2].toNat = qa := (bt_get T 2 (by omega)).trans t2
  have y3 : T[3].toNat = qb := (bt_get T 3 (by omega)).trans t3
  have hpsI := HPos.out
  have t8' : (T.size : Int) = 8 := by omega
  clear hb8 hown HPs HRow t0 t1' t2 t3 t4 c1 c2
  have u1 : (PL.size : Int).tdiv 8 = ((m + 1 : Nat) : Int) := by rw [Int.tdiv_eq_ediv_of_nonneg (by omega)]; exact hpsI
  have u2 : (i : Int).tdiv 8 = (j : Int) := by rw [Int.tdiv_eq_ediv_of_nonneg (by omega)]; exact hj5
  have u3 : IntKind.i64.wrap ((m : Int) + 1) = (m : Int) + 1 := by rw [IntKind.wrap_i64]; omega
  have u4 : IntKind.i64.wrap (j : Int) = (j : Int) := by rw [IntKind.wrap_i64]; omega
  obtain ⟨k0, k1, k2, k3, k4⟩ := hbq
  simp only at k0 k1 k2 k3 k4
  have x5 : IntKind.i64.wrap (q0 : Int) = (q0 : Int) := by rw [IntKind.wrap_i64]; omega
  have x6 : IntKind.i64.wrap (qd : Int) = (qd : Int) := by rw [IntKind.wrap_i64]; omega
  have x7 : IntKind.i64.wrap (qa : Int) = (qa : Int) := by rw [IntKind.wrap_i64]; omega
  have x8 : IntKind.i64.wrap (qb : Int) = (qb : Int) := by rw [IntKind.wrap_i64]; omega
  have v1 : (j : Int) < (m : Int) + 1 := by omega
  have v2 : j < m + 1 := by omega
  have v3 : (0 : Int) ≤ (j : Int) := by omega
  go_upto_region 11 with fail
  simp only [List.append_eq, List.cons_append, List.nil_append]
  go_quiet ((go_at_call 32; exact Calls.quiet_of_same (unhide HV _)))
  have HB9 := hide (below_drewN HB8.out nq)
  have HR9 := hide (RowI.keep (w' := w8.drewN nq) HR8.out rfl)
  have hz9 : w7.heap.size ≤ (w8.drewN nq).heap.size := hz8
  clear x0 x1 x2 x3 x4 x5 x6 x7 x8 u1 u2 u3 u4 v1 v2 v3 hz8 HR8 HB8
  generalize w8.drewN nq = w9 at *
  go_wp2_with fail
  refine (unhide HAm _ HB9.out).mono ?_
  rintro e w10 ⟨hb10, n10, rfl, hn10⟩
  have HR10 := hide (HR9.out.keep (hb10.block _ (by omega)))
  have HB10 : Hid (Below w.heap.size w w10) := HB9.out.trans (hb10.mono (by omega))
  have hz10 := hb10.size
  have hc := HAd.out _ hn10
  clear hb10 hn10 HAm HAd
  rcases hc with ⟨rfl, hor⟩ | ⟨rfl, hco⟩
  · by_cases hji : (i : Int) < (own.size : Int)
    · clear hor
      go_wp2_with fail
      go_ret
      exact ⟨rfl, HB10.out⟩
    · have hd8 : (qd : Int) < 8 := by
        rcases hor with h | h
        · exact absurd (HJl.out.2 h) hji
        · omega
      clear hor
      go_wp2_with fail
      go_ret
      exact ⟨rfl, HB10.out⟩
  · have HD := hide (HDm.out _ HB10.out hco)
    have rI := HR10.out.isRow 138 hlF
    have rD' := HR10.out.rowD
    clear hco HDm
    go_wp2_with (refine wpList_load_S rfl _ rfl w.heap.size rfl rI _ rD' ?_)
    refine (unhide HD).mono ?_
    rintro e w11 ⟨rfl, hb11⟩
    have HB11 : Hid (Below w.heap.size w w11) := HB10.out.trans (hb11.mono (by omega))
    clear hb11 rI rD'
    go_wp2_with fail
    go_ret
    exact ⟨rfl, HB11.out⟩
end Go.Proofs.YtmmflekajbeamaaDoor

namespace Go.Proofs.YtmmflekajbeamaaDoor
open Go.ChangeShapes Go.WideShapes Go.ChangeAt Go.WideMaps Go.WideElems Go.RowKit

theorem own : ownKnob Tryd.prog.godebug = none := by kernel_rfl
theorem laidOut : laidOutB Tryd.prog = true := by kernel_rfl
theorem gRows : Tryd.prog.globalNamed "crib/code.rows" = some 0 := by kernel_rfl
theorem tRows : (Tryd.prog.globals[0]?).map (·.type) = some 220 := by kernel_rfl
theorem c114 : Tryd.prog.cellsOf 198 = 3 := by kernel_rfl
theorem c132 : Tryd.prog.cellsOf 220 = 36 := by kernel_rfl
theorem c9 : Tryd.prog.cellsOf 9 = 1 := by kernel_rfl
theorem cells3t : Tryd.prog.cellsOf 3 = 1 := by kernel_rfl

set_option maxRecDepth 100000 in
/-- A row of the table, read: its three cells. -/
theorem row_cells {H : Type} {enc : TypeId × Value → H} {W : World} {base : Nat} {spare : Nat → Bool} {held : Bool} {m : Nat} {cs : List Value} {x : DataW H × List MemPlace} {a b : List UInt8} {n : Int}
    (h : DataW.trod enc Tryd.prog W base spare held m 198 cs = some x) (hx : x.1 = .agg [.lit (.string a), .lit (.int .i64 n), .lit (.string b)]) : cs = [.string ⟨a.toArray⟩, .int .i64 n, .string ⟨b.toArray⟩] := by
  obtain ⟨y0, y1, y2, k, rfl, hl, h0, h1, h2⟩ := Go.Deep.trod_struct3 Tryd.underlying198 h
  rw [c114] at hl
  match cs, hl with
  | [v0, v1, v2], _ =>
    obtain ⟨s0, e0, f0, _⟩ := DataW.trod_string Tryd.underlying9 h0
    obtain ⟨k1, e1, f1, _⟩ := DataW.trod_int Tryd.underlying3 h1
    obtain ⟨s2, e2, f2, _⟩ := DataW.trod_string Tryd.underlying9 h2
    subst f0 f1 f2
    simp [c9, cells3t] at e0 e1 e2
    simp at hx
    obtain ⟨rfl, rfl, rfl⟩ := hx
    subst e0 e1 e2
    rfl

theorem chunk {cs : List Value} {rest : List Value} {i : Nat} (a b c : Value) (h : (cs.drop i).take 3 = [a, b, c]) (hr : cs.drop (i + 3) = rest) : cs.drop i = a :: b :: c :: rest := by
  have := List.take_append_drop 3 (cs.drop i)
  rw [h, List.drop_drop, hr] at this
  exact this.symm

set_option maxRecDepth 100000 in
theorem of_laid {W : World} (h : laidMetH Tryd.prog [("crib/code.rows", Rows.laid_crib_code_rows)] W) : Tab W := by
  rw [MakeChecks.laidMetH_plain _ _ _ (by kernel_rfl)] at h
  obtain ⟨ps, ⟨g0, t0, cs0, f0, p0, q0, hg0, ht0, hv0, hd0, _⟩, _, _⟩ := h
  obtain rfl := Option.some.inj (gRows.symm.trans hg0)
  obtain rfl := Option.some.inj (tRows.symm.trans ht0)
  obtain ⟨xs, m1, rfl, hx1, hlen, hn, hel⟩ := DataW.trod_array Tryd.underlying220 hd0
  rw [c114] at hel
  rw [c132] at hlen
  simp only [Prod.mk.injEq] at hx1
  have hx := hx1.1
  simp only [Rows.laid_crib_code_rows, DataW.agg.injEq] at hx
  match xs, hn, hx, hel with
  | [x0, x1, x2, x3, x4, x5, x6, x7, x8, x9, x10, x11], _, hx, hel =>
    simp only [List.map_cons, List.map_nil, List.cons.injEq, and_true] at hx
    obtain ⟨d0, d1, d2, d3, d4, d5, d6, d7, d8, d9, d10, d11⟩ := hx
    have r0 := row_cells (hel 0 (by decide)) d0.symm
    have r1 := row_cells (hel 1 (by decide)) d1.symm
    have r2 := row_cells (hel 2 (by decide)) d2.symm
    have r3 := row_cells (hel 3 (by decide)) d3.symm
    have r4 := row_cells (hel 4 (by decide)) d4.symm
    have r5 := row_cells (hel 5 (by decide)) d5.symm
    have r6 := row_cells (hel 6 (by decide)) d6.symm
    have r7 := row_cells (hel 7 (by decide)) d7.symm
    have r8 := row_cells (hel 8 (by decide)) d8.symm
    have r9 := row_cells (hel 9 (by decide)) d9.symm
    have r10 := row_cells (hel 10 (by decide)) d10.symm
    have r11 := row_cells (hel 11 (by decide)) d11.symm
    have e12 : cs0.toList.drop 36 = [] := List.drop_of_length_le (by omega)
    have e11 := chunk _ _ _ r11 e12
    have e10 := chunk _ _ _ r10 e11
    have e9 := chunk _ _ _ r9 e10
    have e8 := chunk _ _ _ r8 e9
    have e7 := chunk _ _ _ r7 e8
    have e6 := chunk _ _ _ r6 e7
    have e5 := chunk _ _ _ r5 e6
    have e4 := chunk _ _ _ r4 e5
    have e3 := chunk _ _ _ r3 e4
    have e2 := chunk _ _ _ r2 e3
    have e1 := chunk _ _ _ r1 e2
    have e0 := chunk _ _ _ r0 e1
    have ec : cs0 = tabA := by
      apply Array.toList_inj.1
      have : cs0.toList.drop (0 * 3) = cs0.toList := rfl
      rw [← this, e0]
      rfl
    subst ec
    unfold World.var? at hv0
    rw [gRows] at hv0
    simp only [Option.bind_some] at hv0
    unfold Tab
    split at hv0
    · rename_i c t fr hc
      cases hv0
      exact ⟨t, fr, hc⟩
    · cases hv0

/-- The heap that the program's own start-up leaves meets the condition. -/
theorem door_met (os : Os) (args : Array Value) : laidMetH Tryd.prog [("crib/code.rows", Rows.laid_crib_code_rows)] ((World.doorLaid Tryd.prog 26 os).forCall (fun _ _ => 0) ⟨#[], args, []⟩).memory :=
  laidMetH_of_parts3 (fuel := 8) (laidMet_of_run' 8 (by kernel_rfl) (by kernel_rfl)) (by kernel_rfl) (by kernel_rfl)
end Go.Proofs.YtmmflekajbeamaaDoor
