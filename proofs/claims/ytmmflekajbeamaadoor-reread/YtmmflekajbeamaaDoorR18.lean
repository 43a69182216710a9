/-
  Frames, the document's answer: the first frame of a text (cribref.first).
  Frames: the first frame of a text (strings.HasPrefix, frame.first).
  Frames: an area in memory; frames that open and end one (takeOpen, takeWhole).
  Frames: a copy of a text (strings.Clone), by the kit's own law of it; a block's words as a text again.
  Areas told and read back, as plain mathematics: the check sum tells one byte from another; a frame told is the first frame read; a frame with one byte turned is none; the frames of an area, one behind the other.
-/
import Derived.Test.YtmmflekajbeamaaDoorR15
import Derived.Test.YtmmflekajbeamaaDoorR17
import Derived.Deep.RegionHeld3
import Derived.BigQuiet
import Derived.Test.YtmmflekajbeamaaDoorR12
import Derived.Test.YtmmflekajbeamaaDoorR16
import Derived.Shelf.Pu.Clone
namespace Go.Proofs.YtmmflekajbeamaaDoor
open Go.RowKit

set_option maxRecDepth 100000 in
set_option maxHeartbeats 1000000 in
theorem valueB_any (s : ByteArray) (i n : Nat) (w : World) (hn : n ≤ 4) (hi : i + n ≤ s.size) (hs : s.size ≤ 2000000) :
    Calls Tryd.prog 86 #[.string s, .int .i64 i, .int .i64 n] w fun e' w' => e' = .returned (.int .i64 (beN s i n)) ∧ w' = w := by
  go_enter Tryd.func86, Tryd.ntmps86
  go_wp2_with fail
  go_loop [7, 8] (fun v j => ∃ k : Nat, k ≤ n ∧ j = .int .i64 ((i + k : Nat) : Int) ∧ v = .int .i64 (beN s i k)) (fun _ j => i + n - (intOf j).toNat)
  case atStart => exact ⟨0, Nat.zero_le _, by simp, rfl⟩
  case round =>
    obtain ⟨k, hk, rfl, rfl⟩ := hrel
    by_cases hlt : k < n
    · have hlt' : ((i + k : Nat) : Int) < (i : Int) + (n : Int) := by omega
      have hin : i + k < s.size := by omega
      have hgb := bt_get s (i + k) hin
      have hbl := bt_lt s (i + k)
      have hv := beN_le3 s i k (by omega)
      have HS : Hid (beN s i (k + 1) = beN s i k * 256 + bt s (i + k)) := by unfold Hid; rw [beN_succ]
      generalize beN s i k = v at *
      have hin' : ((i + k : Nat) : Int) < (s.size : Int) := by omega
      have HJ : Hid (((i + k : Nat) : Int) + 1 = ((i + (k + 1) : Nat) : Int)) := by unfold Hid; omega
      have HM : Hid (i + n - (i + (k + 1)) < i + n - (i + k)) := by unfold Hid; omega
      generalize i + k = j at *
      go_wp2_with fail
      refine ⟨⟨k + 1, by omega, by rw [HJ.out], ?_⟩, ?_⟩
      · rw [HS.out]
        go_num
      · rw [HJ.out]; simp only [intOf, Int.toNat_natCast]; exact HM.out
    · have hkn : k = n := by omega
      subst hkn
      have hlt' : ¬ ((i + k : Nat) : Int) < (i : Int) + (k : Int) := by omega
      go_wp2_with fail
      go_ret
      exact ⟨rfl, rfl⟩
theorem lst_get (s : ByteArray) (i : Nat) : (lst s).getD i 0 = s.get! i := by
  rw [← bya_get, bya_lst]
theorem frN_be (s : ByteArray) : frN (lst s) = beN s 2 2 := by
  unfold frN
  rw [lst_get, lst_get]
  simp only [beN, Nat.add_zero, Nat.reduceAdd]
  omega
theorem lst_ext (s : ByteArray) (a b : Nat) : lst (s.extract a b) = ((lst s).drop a).take (b - a) := by
  unfold lst
  rw [ByteArray.data_extract, Array.toList_extract, List.extract_eq_take_drop]
theorem lst_inj {s t : ByteArray} : lst s = lst t ↔ s = t := ⟨fun h => by rw [← bya_lst s, h, bya_lst], fun h => by rw [h]⟩
theorem str_ne {s t : ByteArray} (h : ¬ s = t) : (s.toList == t.toList) = false := by
  rw [beq_eq_false_iff_ne]
  intro e
  rw [ByteArray.toList_eq, ByteArray.toList_eq] at e
  exact h (lst_inj.1 e)
/-- The first frame of a text, by its parts. -/
theorem frst_eq (s : ByteArray) (h8 : 8 ≤ s.size) (hn : beN s 2 2 + 8 ≤ s.size) :
    ((sealOK (bt s 1 : Nat) (s.extract 4 (4 + beN s 2 2)) ∧ s.extract 0 (8 + beN s 2 2) = bya (frT (bt s 1) (lst (s.extract 4 (4 + beN s 2 2))))) → frst (lst s) = some (bt s 1, lst (s.extract 4 (4 + beN s 2 2)))) ∧ (¬ (sealOK (bt s 1 : Nat) (s.extract 4 (4 + beN s 2 2)) ∧ s.extract 0 (8 + beN s 2 2) = bya (frT (bt s 1) (lst (s.extract 4 (4 + beN s 2 2))))) → frst (lst s) = none) := by
  have e1 : ((lst s).getD 1 0).toNat = bt s 1 := by rw [lst_get]; rfl
  have e4 : lst (s.extract 4 (4 + beN s 2 2)) = ((lst s).drop 4).take (beN s 2 2) := by rw [lst_ext, show 4 + beN s 2 2 - 4 = beN s 2 2 by omega]
  have e0 : lst (s.extract 0 (8 + beN s 2 2)) = (lst s).take (beN s 2 2 + 8) := by rw [lst_ext, List.drop_zero, show 8 + beN s 2 2 - 0 = beN s 2 2 + 8 by omega]
  have ez : (s.extract 4 (4 + beN s 2 2)).size = beN s 2 2 := by rw [ByteArray.size_extract]; omega
  unfold frst
  rw [if_neg (by rw [lst_len]; omega), frN_be, if_neg (by rw [lst_len]; omega), e1, ← e4, ← e0]
  unfold sealOK
  rw [ez]
  have hiff : (1 ≤ bt s 1 ∧ bt s 1 ≤ 3 ∧ beN s 2 2 ≤ 200 ∧ lst (s.extract 0 (8 + beN s 2 2)) = frT (bt s 1) (lst (s.extract 4 (4 + beN s 2 2)))) ↔ ((1 ≤ ((bt s 1 : Nat) : Int) ∧ ((bt s 1 : Nat) : Int) ≤ 3 ∧ beN s 2 2 ≤ 200) ∧ s.extract 0 (8 + beN s 2 2) = bya (frT (bt s 1) (lst (s.extract 4 (4 + beN s 2 2))))) := by
    rw [← lst_inj, lst_bya]
    constructor
    · rintro ⟨a, b, c, d⟩
      exact ⟨⟨by omega, by omega, c⟩, d⟩
    · rintro ⟨⟨a, b, c⟩, d⟩
      exact ⟨by omega, by omega, c, d⟩
  exact ⟨fun h => by rw [if_pos (hiff.2 h)], fun h => by rw [if_neg (fun hc => h (hiff.1 hc))]⟩
theorem frst_short (s : ByteArray) (h : s.size < 8 ∨ s.size < beN s 2 2 + 8) : frst (lst s) = none := by
  unfold frst
  by_cases h8 : s.size < 8
  · rw [if_pos (by rw [lst_len]; exact h8)]
  · rw [if_neg (by rw [lst_len]; exact h8), frN_be, if_pos (by rw [lst_len]; omega)]
/-- What the first frame is told to be. -/
def FstIs (s : ByteArray) (k : Int) (p : ByteArray) : Prop := (frst (lst s) = none ∧ k = 0 ∧ p = bya []) ∨ ∃ (K : Nat) (q : List UInt8), frst (lst s) = some (K, q) ∧ k = K ∧ p = bya q

set_option maxRecDepth 100000 in
set_option maxHeartbeats 4000000 in
theorem refFirst_any (s : ByteArray) (w : World) (hs : s.size ≤ 2000000) :
    Calls Tryd.prog 108 #[.string s] w fun e' w' => Below w.heap.size w w' ∧ ∃ k p, e' = .returned (.tuple #[.int .i64 k, .string p]) ∧ FstIs s k p := by
  by_cases h8 : s.size < 8
  · have HN := hide (frst_short s (.inl h8))
    have h8' : (s.size : Int) < 8 := by omega
    go_enter Tryd.func108, Tryd.ntmps108
    go_wp2_with fail
    go_ret2
    exact ⟨Below.refl _ _, _, _, rfl, .inl ⟨HN.out, rfl, rfl⟩⟩
  have h8' : ¬ (s.size : Int) < 8 := by omega
  have HV := hide (fun w' => valueB_any s 2 2 w' (by decide) (by omega) hs)
  by_cases hn : s.size < beN s 2 2 + 8
  · have HN := hide (frst_short s (.inr hn))
    have hb : beN s 2 2 < 65536 := beN_lt s 2 2
    have hn' : (s.size : Int) < (beN s 2 2 : Int) + 8 := by omega
    generalize beN s 2 2 = n at *
    go_enter Tryd.func108, Tryd.ntmps108
    go_wp2_with fail
    refine (unhide HV _).mono ?_
    rintro e w' ⟨rfl, hw⟩
    obtain rfl := hw.symm
    go_wp2_with fail
    go_ret2
    exact ⟨Below.refl _ _, _, _, rfl, .inl ⟨HN.out, rfl, rfl⟩⟩
  have HE := hide (frst_eq s (by omega) (by omega))
  have hb : beN s 2 2 < 65536 := beN_lt s 2 2
  have hn' : ¬ (s.size : Int) < (beN s 2 2 : Int) + 8 := by omega
  have hg1 := bt_get s 1 (by omega)
  have hbl := bt_lt s 1
  have HSl := hide (fun w' => refSeal_any (bt s 1 : Nat) (s.extract 4 (4 + beN s 2 2)) w')
  have v1 : IntKind.i64.wrap (4 + (beN s 2 2 : Int)) = 4 + (beN s 2 2 : Int) := by rw [IntKind.wrap_i64]; omega
  have v2 : (4 : Int) ≤ 4 + (beN s 2 2 : Int) := by omega
  have v3 : 4 + (beN s 2 2 : Int) ≤ (s.size : Int) := by omega
  have v4 : (0 : Int) ≤ 4 + (beN s 2 2 : Int) := by omega
  have v5 : (4 + (beN s 2 2 : Int)).toNat = 4 + beN s 2 2 := by omega
  have v6 : (8 + (beN s 2 2 : Int)).toNat = 8 + beN s 2 2 := by omega
  have v7 : 8 + (beN s 2 2 : Int) ≤ (s.size : Int) := by omega
  have v8 : (0 : Int) ≤ 8 + (beN s 2 2 : Int) := by omega
  have v9 : IntKind.i64.wrap (bt s 1 : Int) = (bt s 1 : Int) := by rw [IntKind.wrap_i64]; omega
  generalize beN s 2 2 = n at *
  generalize bt s 1 = K at *
  go_enter Tryd.func108, Tryd.ntmps108
  go_wp2_with fail
  refine (unhide HV _).mono ?_
  rintro e w' ⟨rfl, hw⟩
  obtain rfl := hw.symm
  go_upto_region 6 with fail
  go_region_held3 (fun _ => True) (trivial) ((go_at_call 65; refine (unhide HSl _).mono ?_; intro e w1 hpost; obtain ⟨D, m, rfl⟩ := hpost.form; have HP1 := hide hpost; clear hpost))
  obtain ⟨hb1, ⟨hok, heq⟩ | ⟨hno, heq⟩⟩ := HP1.out
  · simp only [Int.toNat_natCast, Ending.returned.injEq, Value.tuple.injEq] at heq
    obtain ⟨rfl, rfl⟩ : D = bya (frT K (lst (s.extract 4 (4 + n)))) ∧ m = 0 := by simpa using heq
    have HB1 : Hid (Below w.heap.size w w1) := (show Below w.heap.size w w.drew from (Below.refl _ w).drew).trans hb1
    have HOk := hide hok
    have HP : Hid (bya (lst (s.extract 4 (4 + n))) = s.extract 4 (4 + n)) := bya_lst _
    clear hb1 hok heq HP1 HSl
    by_cases hq : s.extract 0 (8 + n) = bya (frT K (lst (s.extract 4 (4 + n))))
    · have HR := hide (HE.out.1 ⟨HOk.out, hq⟩)
      rw [← hq]
      clear hq
      go_upto_region 9 with fail
      go_quiet (fail)
      go_wp2_with fail
      go_ret2
      exact ⟨below_drewN HB1.out nq, _, _, rfl, .inr ⟨_, _, HR.out, rfl, HP.out.symm⟩⟩
    · have HR := hide (HE.out.2 (fun h => hq h.2))
      obtain ⟨D, hD⟩ : ∃ D, D = bya (frT K (lst (s.extract 4 (4 + n)))) := ⟨_, rfl⟩
      rw [← hD] at hq
      rw [← hD]
      have hqb := str_ne hq
      clear hD hq
      go_wp2_with fail
      go_ret2
      exact ⟨HB1.out, _, _, rfl, .inl ⟨HR.out, rfl, rfl⟩⟩
  · obtain ⟨rfl, rfl⟩ : D = bya [] ∧ m = 1 := by simpa using heq
    have HB1 : Hid (Below w.heap.size w w1) := (show Below w.heap.size w w.drew from (Below.refl _ w).drew).trans hb1
    have HR := hide (HE.out.2 (fun h => hno h.1))
    clear hb1 hno heq HP1 HSl
    go_wp2_with fail
    go_ret2
    exact ⟨HB1.out, _, _, rfl, .inl ⟨HR.out, rfl, rfl⟩⟩
end Go.Proofs.YtmmflekajbeamaaDoor

namespace Go.Proofs.YtmmflekajbeamaaDoor
open Go.RowKit

def preS (s t : ByteArray) : Bool := decide (t.size ≤ s.size) && ((s.extract 0 t.size).toList == t.toList)
theorem preS_true {s t : ByteArray} : preS s t = true ↔ t.size ≤ s.size ∧ s.extract 0 t.size = t := by
  unfold preS
  rw [Bool.and_eq_true, decide_eq_true_eq, beq_iff_eq, ByteArray.toList_eq, ByteArray.toList_eq]
  exact ⟨fun h => ⟨h.1, lst_inj.1 h.2⟩, fun h => ⟨h.1, by rw [h.2]⟩⟩
set_option maxRecDepth 100000 in
set_option maxHeartbeats 1000000 in
theorem hasPre_any (s t : ByteArray) (w : World) :
    Calls Tryd.prog 144 #[.string s, .string t] w fun e' w' => e' = .returned (.bool (preS s t)) ∧ w' = w := by
  by_cases h : t.size ≤ s.size
  · have HP : Hid (((s.extract 0 t.size).toList == t.toList) = preS s t) := by unfold Hid preS; rw [decide_eq_true h, Bool.true_and]
    go_enter Tryd.func144, Tryd.ntmps144
    go_wp2
    go_ret
    exact ⟨ret_bool HP.out, rfl⟩
  · have HP : Hid (false = preS s t) := by unfold Hid preS; rw [decide_eq_false h, Bool.false_and]
    go_enter Tryd.func144, Tryd.ntmps144
    go_wp2
    go_ret
    exact ⟨ret_bool HP.out, rfl⟩
theorem ext_pay (s : ByteArray) (n : Nat) (h : 4 + n ≤ s.size) : (s.extract 4 s.size).extract 0 n = s.extract 4 (4 + n) := by
  rw [← lst_inj, lst_ext, lst_ext, lst_ext, List.drop_zero, Nat.sub_zero, List.take_take, Nat.min_eq_left (by omega), show 4 + n - 4 = n by omega]
/-- What the program's first frame is. -/
def frV (k : Int) (p : ByteArray) (n : Int) : Array Value := #[.int .i64 k, .string p, .int .i64 n]
def FstF (s : ByteArray) (e' : Ending) : Prop :=
  (frst (lst s) = none ∧ e' = .returned (.tuple #[.agg (frV 0 (bya []) 0), .bool false])) ∨ ∃ (K : Nat) (q : List UInt8), frst (lst s) = some (K, q) ∧ e' = .returned (.tuple #[.agg (frV K (bya q) ((q.length + 8 : Nat) : Int)), .bool true])
theorem frV_one (k : Int) (p : ByteArray) (n : Int) : (frV k p n).all (·.oneCell') = true := by simp [frV, Value.oneCell']
theorem wpList_storeF {ops : Array Oper} {rest : List Oper} {o : Oper} {a : Act} {w : World} {Q : Exit → Act → World → Prop} (hgd : o.guard = none) (x y : Operand) (ho : o.op = .store 149 x y)
    (g : Nat) (k : Int) (p : ByteArray) (n : Int) (hx : a.eval x = .pointer (some ⟨g, 0, none⟩)) (hy : a.eval y = .agg (frV k p n)) (old : Array Value) (hg : w.heap[g]? = some (.cells old 149 (0, 0))) (hold : old.size = 3)
    (h : wpList Tryd.prog ops Q rest (a.put o.dst undef) (w.setRow g (frV k p n))) : wpList Tryd.prog ops Q (o :: rest) a w :=
  wpList_store_row hgd 149 x y ho g (frV k p n) hx hy 149 old hg (show (Tryd.prog.info? 149).map (·.size) = some 3 by kernel_rfl) hold (frV_one k p n) h
theorem size149 : (Tryd.prog.info? 149).map (·.size) = some 3 := by kernel_rfl
theorem build149 (w : World) : (Instr.build 149 #[]).run Tryd.prog w = .ok (.agg (frV 0 (bya []) 0)) w := by kernel_rfl
theorem zero149 (w : World) : (zeroValue 149).run Tryd.prog w = .ok (.agg (frV 0 (bya []) 0)) w := by kernel_rfl
theorem res_F {fn : Func} {p u : Tmp} (h : fn.results = #[.cell p 149, .tmp u]) (tmps : Array Value) (w : World) (g : Nat) (c : Array Value) (hz : c.size = 3)
    (hp : tmps.getD p undef = .pointer (some ⟨g, 0, none⟩)) (hg : w.heap[g]? = some (.cells c 149 (0, 0))) (x : Value) (hu : tmps.getD u undef = x) :
    (results fn tmps).run Tryd.prog w = .ok (.tuple #[.agg c, x]) w := by
  rw [results_cell_tmp h, hp, hu]
  simp only [asAddr, Sem.run_pure, Result.andThen]
  rw [run_loadVar_row w g 149 149 c (0, 0) _ hg Tryd.underlying149 rfl (by rw [size149, hz])]

set_option maxRecDepth 100000 in
set_option maxHeartbeats 4000000 in
theorem frFirst_any (s : ByteArray) (w : World) (hs : s.size ≤ 4611686018427387904) :
    Calls Tryd.prog 110 #[.string s] w fun e' w' => Below w.heap.size w w' ∧ FstF s e' := by
  have bz := build149
  have zz := zero149
  have HW0 : Hid ((w.alloc (.cells (frV 0 (bya []) 0) 149)).heap[w.heap.size]? = some (.cells (frV 0 (bya []) 0) 149 (0, 0))) := _root_.Go.heap_alloc_new w _
  have HB0 := hide ((Below.refl w.heap.size w).alloc (Nat.le_refl _) (.cells (frV 0 (bya []) 0) 149))
  by_cases h4 : s.size < 4
  · have HN := hide (frst_short s (.inl (by omega)))
    have h4' : (s.size : Int) < 4 := by omega
    go_enter Tryd.func110, Tryd.ntmps110
    go_wp2_with (refine wpList_storeF rfl _ _ rfl w.heap.size 0 (bya []) 0 rfl rfl _ HW0.out rfl ?_)
    exact bodyPost_ret (v := .tuple #[.agg (frV 0 (bya []) 0), .bool false]) (res_F Tryd.results110 _ _ w.heap.size _ rfl rfl (setRow_heap _ _ _ _ _ (0, 0) HW0.out) _ rfl) rfl ⟨below_setRow HB0.out (Nat.le_refl _) _, .inl ⟨HN.out, rfl⟩⟩
  have h4' : ¬ (s.size : Int) < 4 := by omega
  have hg1 := bt_get s 1 (by omega)
  have hbl := bt_lt s 1
  have HRd := hide (fun w' => numRead_any (s.extract 2 4) w' (by rw [ByteArray.size_extract]; omega))
  rw [show (s.extract 2 4).size = 2 by rw [ByteArray.size_extract]; omega, show s.extract 2 4 = s.extract 2 (2 + 2) from rfl, extr_beN s 2 2 0 (by omega) 2 (by omega)] at HRd
  have ez : (s.extract 4 s.size).size = s.size - 4 := by rw [ByteArray.size_extract]; omega
  have hb : beN s 2 2 < 65536 := beN_lt s 2 2
  have hNm : (s.extract 4 s.size).size < beN s 2 2 → frst (lst s) = none := fun h => frst_short s (by omega)
  have e0 : (beN s 2 2 : Int) ≤ (s.size : Int) - 4 ∨ (s.size : Int) - 4 < (beN s 2 2 : Int) := by omega
  by_cases hgt : s.size - 4 < beN s 2 2
  · have HN := hide (frst_short s (by omega))
    have hgt' : (((s.extract 4 s.size).size : Nat) : Int) < (beN s 2 2 : Int) := by omega
    clear hNm e0
    generalize beN s 2 2 = n at *
    generalize bt s 1 = K at *
    go_enter Tryd.func110, Tryd.ntmps110
    go_upto_region 3 with fail
    go_quiet (fail)
    have HB1 := hide (below_drewN HB0.out nq)
    have HW1 : Hid (((w.alloc (.cells (frV 0 (bya []) 0) 149)).drewN nq).heap[w.heap.size]? = some (.cells (frV 0 (bya []) 0) 149 (0, 0))) := HW0.out
    generalize (w.alloc (.cells (frV 0 (bya []) 0) 149)).drewN nq = w1 at *
    go_wp2_with fail
    refine (unhide HRd _).mono ?_
    rintro e w' ⟨rfl, hw⟩
    obtain rfl := hw.symm
    go_wp2_with (refine wpList_storeF rfl _ _ rfl w.heap.size 0 (bya []) 0 rfl rfl _ HW1.out rfl ?_)
    exact bodyPost_ret (v := .tuple #[.agg (frV 0 (bya []) 0), .bool false]) (res_F Tryd.results110 _ _ w.heap.size _ rfl rfl (setRow_heap _ _ _ _ _ (0, 0) HW1.out) _ rfl) rfl ⟨below_setRow HB1.out (Nat.le_refl _) _, .inl ⟨HN.out, rfl⟩⟩
  have hle' : ¬ (((s.extract 4 s.size).size : Nat) : Int) < (beN s 2 2 : Int) := by omega
  have hle2 : (beN s 2 2 : Int) ≤ (((s.extract 4 s.size).size : Nat) : Int) := by omega
  have hpay := ext_pay s (beN s 2 2) (by omega)
  have HSl := hide (fun w' => frSeal_any (bt s 1 : Nat) (s.extract 4 (4 + beN s 2 2)) w')
  have HPy := hide hpay
  have hpz : (s.extract 4 (4 + beN s 2 2)).size = beN s 2 2 := by rw [ByteArray.size_extract]; omega
  -- the frame, if there is one
  have HY : Hid (sealOK (bt s 1 : Nat) (s.extract 4 (4 + beN s 2 2)) → preS s (bya (frT (bt s 1) (lst (s.extract 4 (4 + beN s 2 2))))) = true → frst (lst s) = some (bt s 1, lst (s.extract 4 (4 + beN s 2 2)))) := fun hok hp => by
    obtain ⟨h1, h2⟩ := preS_true.1 hp
    have hz : (bya (frT (bt s 1) (lst (s.extract 4 (4 + beN s 2 2))))).size = beN s 2 2 + 8 := by rw [bya_size, frT_len, lst_len, hpz]
    rw [hz] at h1 h2
    refine (frst_eq s (by omega) (by omega)).1 ⟨hok, ?_⟩
    rw [Nat.add_comm 8 (beN s 2 2)]
    exact h2
  have HNo : Hid ((¬ sealOK (bt s 1 : Nat) (s.extract 4 (4 + beN s 2 2)) ∨ preS s (bya (frT (bt s 1) (lst (s.extract 4 (4 + beN s 2 2))))) = false) → frst (lst s) = none) := fun h => by
    by_cases h8 : beN s 2 2 + 8 ≤ s.size
    · refine (frst_eq s (by omega) h8).2 (fun hh => ?_)
      rcases h with h | h
      · exact h hh.1
      · have hz : (bya (frT (bt s 1) (lst (s.extract 4 (4 + beN s 2 2))))).size = beN s 2 2 + 8 := by rw [bya_size, frT_len, lst_len, hpz]
        have : preS s (bya (frT (bt s 1) (lst (s.extract 4 (4 + beN s 2 2))))) = true := preS_true.2 ⟨by rw [hz]; exact h8, by rw [hz, Nat.add_comm (beN s 2 2) 8]; exact hh.2⟩
        rw [this] at h
        cases h
    · exact frst_short s (.inr (by omega))
  have HPz := hide hpz
  have HPr := hide (fun t w' => hasPre_any s t w')
  clear hNm e0 hpay hpz
  generalize beN s 2 2 = n at *
  generalize bt s 1 = K at *
  go_enter Tryd.func110, Tryd.ntmps110
  go_upto_region 3 with fail
  go_quiet (fail)
  have HB1 := hide (below_drewN HB0.out nq)
  have HW1 : Hid (((w.alloc (.cells (frV 0 (bya []) 0) 149)).drewN nq).heap[w.heap.size]? = some (.cells (frV 0 (bya []) 0) 149 (0, 0))) := HW0.out
  generalize (w.alloc (.cells (frV 0 (bya []) 0) 149)).drewN nq = w1 at *
  go_wp2_with fail
  refine (unhide HRd _).mono ?_
  rintro e w' ⟨rfl, hw⟩
  obtain rfl := hw.symm
  go_wp2_with fail
  rw [HPy.out]
  refine (unhide HSl _).mono ?_
  rintro e w2 ⟨hb2, ⟨hok, rfl⟩ | ⟨hno, rfl⟩⟩
  · have HB2 : Hid (Below w.heap.size w w2) := HB1.out.trans (hb2.mono (by have := HB1.out.size; omega))
    have HW2 : Hid (w2.heap[w.heap.size]? = some (.cells (frV 0 (bya []) 0) 149 (0, 0))) := (hb2.block _ (Array.getElem?_eq_some_iff.1 HW1.out).1).trans HW1.out
    have HOk := hide hok
    rw [Int.toNat_natCast]
    have HDs : Hid ((bya (frT K (lst (s.extract 4 (4 + n))))).size = (lst (s.extract 4 (4 + n))).length + 8) := by unfold Hid; rw [bya_size, frT_len]
    have HP := hide (HPr.out (bya (frT K (lst (s.extract 4 (4 + n))))))
    have HPb : Hid (bya (lst (s.extract 4 (4 + n))) = s.extract 4 (4 + n)) := bya_lst _
    cases hp : preS s (bya (frT K (lst (s.extract 4 (4 + n)))))
    · rw [hp] at HP
      have HN := hide (HNo.out (.inr hp))
      clear hp hb2 hok HSl HY HNo
      generalize bya (frT K (lst (s.extract 4 (4 + n)))) = D at *
      go_wp2_with fail
      refine (unhide HP _).mono ?_
      rintro e w' ⟨rfl, hw⟩
      obtain rfl := hw.symm
      go_wp2_with (refine wpList_storeF rfl _ _ rfl w.heap.size 0 (bya []) 0 rfl rfl _ HW2.out rfl ?_)
      exact bodyPost_ret (v := .tuple #[.agg (frV 0 (bya []) 0), .bool false]) (res_F Tryd.results110 _ _ w.heap.size _ rfl rfl (setRow_heap _ _ _ _ _ (0, 0) HW2.out) _ rfl) rfl ⟨below_setRow HB2.out (Nat.le_refl _) _, .inl ⟨HN.out, rfl⟩⟩
    · rw [hp] at HP
      have HN := hide (HY.out HOk.out hp)
      clear hp hb2 hok HSl HY HNo
      generalize bya (frT K (lst (s.extract 4 (4 + n)))) = D at *
      go_wp2_with fail
      refine (unhide HP _).mono ?_
      rintro e w' ⟨rfl, hw⟩
      obtain rfl := hw.symm
      go_wp2_with (refine wpList_storeF rfl _ _ rfl w.heap.size K (s.extract 4 (4 + n)) (D.size : Int) rfl rfl _ HW2.out rfl ?_)
      refine bodyPost_ret (v := .tuple #[.agg (frV K (s.extract 4 (4 + n)) (D.size : Int)), .bool true]) (res_F Tryd.results110 _ _ w.heap.size _ rfl rfl (setRow_heap _ _ _ _ _ (0, 0) HW2.out) _ rfl) rfl ⟨below_setRow HB2.out (Nat.le_refl _) _, .inr ⟨_, _, HN.out, ?_⟩⟩
      rw [HPb.out, HDs.out]
  · have HB2 : Hid (Below w.heap.size w w2) := HB1.out.trans (hb2.mono (by have := HB1.out.size; omega))
    have HW2 : Hid (w2.heap[w.heap.size]? = some (.cells (frV 0 (bya []) 0) 149 (0, 0))) := (hb2.block _ (Array.getElem?_eq_some_iff.1 HW1.out).1).trans HW1.out
    have HN := hide (HNo.out (.inl hno))
    clear hb2 hno HSl HY HNo
    go_wp2_with (refine wpList_storeF rfl _ _ rfl w.heap.size 0 (bya []) 0 rfl rfl _ HW2.out rfl ?_)
    exact bodyPost_ret (v := .tuple #[.agg (frV 0 (bya []) 0), .bool false]) (res_F Tryd.results110 _ _ w.heap.size _ rfl rfl (setRow_heap _ _ _ _ _ (0, 0) HW2.out) _ rfl) rfl ⟨below_setRow HB2.out (Nat.le_refl _) _, .inl ⟨HN.out, rfl⟩⟩
end Go.Proofs.YtmmflekajbeamaaDoor

namespace Go.Proofs.YtmmflekajbeamaaDoor
open Go.RowKit

def knCs (l : List (List UInt8 × List UInt8)) : List Value := l.flatMap fun x => [.string (bya x.1), .string (bya x.2)]
theorem knCs_snoc (l : List (List UInt8 × List UInt8)) (x : List UInt8 × List UInt8) : knCs (l ++ [x]) = knCs l ++ [.string (bya x.1), .string (bya x.2)] := by simp [knCs]
def arV (gen : Nat) (whole : Bool) (good : Nat) (v : Value) : Array Value := #[.int .i64 (gen : Int), .bool whole, .int .i64 (good : Int), v]
/-- An area as it lies in memory. -/
structure ArAt (A : Nat) (a : ArN) (v : Value) (w : World) : Prop where
  cells : w.heap[A]? = some (.cells (arV a.gen a.whole a.good v) 74 (0, 0))
  list : w.ownsRow (A + 1) 72 2 v a.list.length (knCs a.list)
/-- What a call keeps that turns an area. -/
def TkFr (A : Nat) (v : Value) (w w' : World) : Prop := Below A w w' ∧ ∀ g, g < w.heap.size → g ≠ A → v.ownBlock ≠ some g → w'.heap[g]? = w.heap[g]?
theorem ArAt.lt {A : Nat} {a : ArN} {v : Value} {w : World} (h : ArAt A a v w) : A < w.heap.size := (Array.getElem?_eq_some_iff.1 h.cells).1
theorem ArAt.cell {A : Nat} {a : ArN} {v : Value} {w : World} (h : ArAt A a v w) (i : Nat) : w.cell? ⟨A, i, none⟩ = (arV a.gen a.whole a.good v)[i]? := cell_row h.cells i
theorem ArAt.frozen {A : Nat} {a : ArN} {v : Value} {w : World} (h : ArAt A a v w) (i : Nat) : w.frozen? ⟨A, i, none⟩ = false := by simp [World.frozen?, h.cells]
theorem ArAt.own {A : Nat} {a : ArN} {v : Value} {w : World} (h : ArAt A a v w) : v.ownBlock ≠ some A := fun e => by
  have := (row_lt h.list A e).1
  omega
theorem ArAt.above {A : Nat} {a : ArN} {v : Value} {w w' : World} (h : ArAt A a v w) (hb : Below w.heap.size w w') : ArAt A a v w' :=
  ⟨(hb.block _ h.lt).trans h.cells, own_grow h.list hb⟩
theorem TkFr.of_above {A : Nat} {v : Value} {w w' : World} (hA : A < w.heap.size) (hb : Below w.heap.size w w') : TkFr A v w w' :=
  ⟨hb.mono (Nat.le_of_lt hA), fun g hg _ _ => hb.block g hg⟩
/-- A cell of the area that is not its list is turned. -/
theorem ArAt.turn {A : Nat} {a a' : ArN} {v : Value} {w : World} (h : ArAt A a v w) (i : Nat) (x : Value) (hl : a'.list = a.list) (hx : (arV a.gen a.whole a.good v).setIfInBounds i x = arV a'.gen a'.whole a'.good v) : ArAt A a' v (w.setCell ⟨A, i, none⟩ x) := by
  refine ⟨?_, ?_⟩
  · obtain ⟨hlt, hk⟩ := Array.getElem?_eq_some_iff.1 h.cells
    show (w.heap.modify A _)[A]? = _
    rw [Array.getElem?_eq_getElem (by rw [Array.size_modify]; exact hlt), Array.getElem_modify_self, hk, ← hx]
    rfl
  · rw [hl]
    refine ownsRow_keep h.list (fun g hg => heap_set_other _ _ (fun e => ?_))
    subst e
    exact h.own hg
theorem TkFr.turn {A : Nat} {v : Value} {w w' : World} (h : TkFr A v w w') (i : Nat) (x : Value) : TkFr A v w (w'.setCell ⟨A, i, none⟩ x) :=
  ⟨h.1.setCell (p := ⟨A, i, none⟩) (Nat.le_refl _) _, fun g hg hn ho => (heap_set_other _ _ hn).trans (h.2 g hg hn ho)⟩

theorem TkFr.refl (A : Nat) (v : Value) (w : World) : TkFr A v w w := ⟨Below.refl _ _, fun _ _ _ _ => rfl⟩
theorem TkFr.alloc {A : Nat} {v : Value} {w w' : World} (h : TkFr A v w w') (hA : A < w.heap.size) (o : Obj) : TkFr A v w (w'.alloc o) :=
  ⟨h.1.alloc (by have := h.1.size; omega) o, fun g hg hn ho => (Below.heap_alloc w' _ _ (by have := h.1.size; omega)).trans (h.2 g hg hn ho)⟩
theorem ArAt.alloc {A : Nat} {a : ArN} {v : Value} {w : World} (h : ArAt A a v w) (o : Obj) : ArAt A a v (w.alloc o) := h.above ((Below.refl _ _).alloc (Nat.le_refl _) o)
/-- What taking a frame leaves: the area's good bytes are not counted yet. -/
def TkPost (A : Nat) (a : ArN) (v : Value) (r : Option ArN) (w : World) (e' : Ending) (w' : World) : Prop :=
  TkFr A v w w' ∧ ((∃ a' v', r = some a' ∧ e' = .returned (.bool true) ∧ ArAt A ⟨a'.gen, a'.whole, a.good, a'.list⟩ v' w' ∧ (∀ g, v'.ownBlock = some g → v.ownBlock = some g ∨ w.heap.size ≤ g)) ∨ (r = none ∧ e' = .returned (.bool false) ∧ ArAt A a v w'))
def rOpen (a : ArN) (K : Nat) (q : List UInt8) : Option ArN := if K = 1 ∧ q.length = 4 ∧ beN (bya q) 0 4 ≠ 0 then some ⟨beN (bya q) 0 4, a.whole, a.good + (q.length + 8), a.list⟩ else none
def rWhole (a : ArN) (q : List UInt8) : Option ArN := if a.whole = false ∧ q = [] then some ⟨a.gen, true, a.good + (q.length + 8), a.list⟩ else none

set_option maxRecDepth 100000 in
set_option maxHeartbeats 2000000 in
/-- An Open frame at the beginning of an area. -/
theorem takeOpen_any (A : Nat) (a : ArN) (v : Value) (K : Nat) (q : List UInt8) (n : Int) (w : World) (h : ArAt A a v w) (hg : a.gen = 0) :
    Calls Tryd.prog 145 #[.pointer (some ⟨A, 0, none⟩), .agg #[.int .i64 (K : Int), .string (bya q), .int .i64 n]] w (TkPost A a v (rOpen a K q) w) := by
  have HZ : Hid ((bya q).size = q.length) := bya_size q
  have hA := h.lt
  have hne : ¬ A = w.heap.size := by omega
  have g0 : w.cell? ⟨A, 0, none⟩ = some (.int .i64 (a.gen : Int)) := h.cell 0
  have f0 := h.frozen 0
  have HNo : Hid (∀ o, rOpen a K q = none → TkPost A a v (rOpen a K q) w (.returned (.bool false)) (w.alloc o)) := fun o hr => ⟨(TkFr.refl A v w).alloc hA o, .inr ⟨hr, rfl, h.alloc o⟩⟩
  have HZero : Hid (∀ o, rOpen a K q = none → TkPost A a v (rOpen a K q) w (.returned (.bool false)) ((w.setCell ⟨A, 0, none⟩ (.int .i64 0)).alloc o)) := fun o hr => by
    refine ⟨((TkFr.refl A v w).turn 0 _).alloc hA o, .inr ⟨hr, rfl, ?_⟩⟩
    refine (h.turn (a' := a) 0 (.int .i64 0) rfl ?_).alloc o
    rw [hg]
    rfl
  have HYes : Hid (∀ o, (K = 1 ∧ q.length = 4 ∧ beN (bya q) 0 4 ≠ 0) → TkPost A a v (rOpen a K q) w (.returned (.bool true)) ((w.setCell ⟨A, 0, none⟩ (.int .i64 (beN (bya q) 0 4 : Int))).alloc o)) := fun o hr =>
    ⟨((TkFr.refl A v w).turn 0 _).alloc hA o, .inl ⟨_, v, if_pos hr, rfl, (h.turn (a' := ⟨beN (bya q) 0 4, a.whole, a.good, a.list⟩) 0 _ rfl rfl).alloc o, fun g hg => .inl hg⟩⟩
  have HR : Hid (¬ (K = 1 ∧ q.length = 4 ∧ beN (bya q) 0 4 ≠ 0) → rOpen a K q = none) := fun hc => if_neg hc
  clear h
  generalize rOpen a K q = R at *
  generalize bya q = D at *
  by_cases hc : K = 1 ∧ q.length = 4
  · obtain ⟨rfl, hl⟩ := hc
    have hz' : (D.size : Int) = 4 := by have := HZ.out; omega
    have HRd := hide (fun w' => numRead_any D w' (by omega))
    rw [show D.size = 4 by omega] at HRd
    have HL := hide hl
    clear hl
    have hbl : beN D 0 4 < 4294967296 := beN_lt D 0 4
    generalize beN D 0 4 = X at *
    by_cases hx0 : X = 0
    · subst hx0
      have HN := hide (HR.out (fun hh => hh.2.2 rfl))
      go_enter Tryd.func145, Tryd.ntmps145
      go_wp2_with fail
      refine (unhide HRd _).mono ?_
      rintro e w' ⟨rfl, hw⟩
      obtain rfl := hw.symm
      go_wp2_with fail
      go_ret
      exact HZero.out _ HN.out
    · have hx1 : (0 : Int) < (X : Int) := by omega
      have hx2 : decide (0 < X) = true := by rw [decide_eq_true_eq]; omega
      have HY := hide (fun o => HYes.out o ⟨rfl, HL.out, hx0⟩)
      go_enter Tryd.func145, Tryd.ntmps145
      go_wp2_with fail
      refine (unhide HRd _).mono ?_
      rintro e w' ⟨rfl, hw⟩
      obtain rfl := hw.symm
      go_wp2_with fail
      go_ret
      exact HY.out _
  · have HN := hide (HR.out (fun hh => hc ⟨hh.1, hh.2.1⟩))
    by_cases hk : K = 1
    · subst hk
      have hz' : ((D.size : Int) == 4) = false := by have := HZ.out; rw [beq_eq_false_iff_ne]; intro e; exact hc ⟨rfl, by omega⟩
      clear hc
      go_enter Tryd.func145, Tryd.ntmps145
      go_wp2_with fail
      go_ret
      exact HNo.out _ HN.out
    · have hk' : ((K : Int) == 1) = false := by rw [beq_eq_false_iff_ne]; omega
      clear hc
      go_enter Tryd.func145, Tryd.ntmps145
      go_wp2_with fail
      go_ret
      exact HNo.out _ HN.out

theorem bya_ne {q : List UInt8} (h : q ≠ []) : ((bya q).toList == ([] : List UInt8)) = false := by
  rw [beq_eq_false_iff_ne, ByteArray.toList_eq]
  intro e
  apply h
  rw [← bya_list q]
  exact e
set_option maxRecDepth 100000 in
set_option maxHeartbeats 2000000 in
/-- A Whole frame. -/
theorem takeWhole_any (A : Nat) (a : ArN) (v : Value) (K : Nat) (q : List UInt8) (n : Int) (w : World) (h : ArAt A a v w) :
    Calls Tryd.prog 147 #[.pointer (some ⟨A, 0, none⟩), .agg #[.int .i64 (K : Int), .string (bya q), .int .i64 n]] w (TkPost A a v (rWhole a q) w) := by
  have hA := h.lt
  have hne : ¬ A = w.heap.size := by omega
  have g1 : w.cell? ⟨A, 1, none⟩ = some (.bool a.whole) := h.cell 1
  have f1 := h.frozen 1
  have HNo : Hid (∀ o, rWhole a q = none → TkPost A a v (rWhole a q) w (.returned (.bool false)) (w.alloc o)) := fun o hr => ⟨(TkFr.refl A v w).alloc hA o, .inr ⟨hr, rfl, h.alloc o⟩⟩
  have HYes : Hid (∀ o, (a.whole = false ∧ q = []) → TkPost A a v (rWhole a q) w (.returned (.bool true)) ((w.setCell ⟨A, 1, none⟩ (.bool true)).alloc o)) := fun o hr =>
    ⟨((TkFr.refl A v w).turn 1 _).alloc hA o, .inl ⟨_, v, if_pos hr, rfl, (h.turn (a' := ⟨a.gen, true, a.good, a.list⟩) 1 _ rfl rfl).alloc o, fun g hg => .inl hg⟩⟩
  have HR : Hid (¬ (a.whole = false ∧ q = []) → rWhole a q = none) := fun hc => if_neg hc
  clear h
  generalize rWhole a q = R at *
  cases hwh : a.whole
  · rw [hwh] at g1
    by_cases hq : q = []
    · have HY := hide (fun o => HYes.out o ⟨hwh, hq⟩)
      subst hq
      have hqb : ((bya []).toList == ([] : List UInt8)) = true := by rw [ByteArray.toList_eq, bya_list]; rfl
      go_enter Tryd.func147, Tryd.ntmps147
      go_wp2_with fail
      go_ret
      exact HY.out _
    · have hqb := bya_ne hq
      have HN := hide (HR.out (fun hh => hq hh.2))
      clear hq
      go_enter Tryd.func147, Tryd.ntmps147
      go_wp2_with fail
      go_ret
      exact HNo.out _ HN.out
  · rw [hwh] at g1
    have HN := hide (HR.out (fun hh => by rw [hwh] at hh; cases hh.1))
    go_enter Tryd.func147, Tryd.ntmps147
    go_wp2_with fail
    go_ret
    exact HNo.out _ HN.out
end Go.Proofs.YtmmflekajbeamaaDoor

namespace Go.Proofs.YtmmflekajbeamaaDoor
open Go.RowKit Go.Shelf

def renC : Ren := ⟨fun _ => 179, fun t => if t = 0 then 0 else if t = 3 then 3 else if t = 4 then 4 else if t = 5 then 5 else if t = 9 then 9 else if t = 37 then 76 else 230, fun x => x⟩
set_option maxRecDepth 100000 in
theorem laysC : LaysPu.n25 Tryd.prog renC := by
  constructor <;> first | kernel_rfl | (intro w; kernel_rfl)
set_option maxRecDepth 100000 in
theorem clone_any (s : ByteArray) (w : World) (hs : s.size ≤ 2000000) :
    Calls Tryd.prog 166 #[.string s] w fun e' w' => e' = .returned (.string s) ∧ Below w.heap.size w w' := by
  have HC := hide (AnyPu.stringslite_Clone laysC s w (by omega))
  go_enter Tryd.func166, Tryd.ntmps166
  go_wp2_with fail
  refine (unhide HC).mono ?_
  rintro e w1 ⟨rfl, hb⟩
  have HB := hide hb
  clear hb
  go_wp2_with fail
  go_ret
  exact ⟨rfl, HB.out⟩
theorem numB_be (s : ByteArray) (i : Nat) : numB 4 (beN s i 4) = [s.get! i, s.get! (i + 1), s.get! (i + 2), s.get! (i + 3)] := by
  have h0 := (s.get! i).toNat_lt; have h1 := (s.get! (i + 1)).toNat_lt; have h2 := (s.get! (i + 2)).toNat_lt; have h3 := (s.get! (i + 3)).toNat_lt
  simp only [numB, beN, Nat.reducePow, Nat.div_one, Nat.add_zero]
  have e : ∀ (b : UInt8) (n : Nat), n = b.toNat → UInt8.ofNat n = b := fun b n h => by rw [h]; simp
  rw [e (s.get! i) _ (by omega), e (s.get! (i + 1)) _ (by omega), e (s.get! (i + 2)) _ (by omega), e (s.get! (i + 3)) _ (by omega)]
theorem wds_take (s : ByteArray) : ∀ k, 4 * k ≤ s.size → wdsT (blkL s k) = (lst s).take (4 * k) := by
  intro k
  induction k with
  | zero => intro _; simp [blkL, wdsT]
  | succ k ih =>
    intro hk
    rw [blkL_succ, wdsT_snoc, ih (by omega)]
    unfold wdAt
    rw [numB_be, show 4 * (k + 1) = 4 * k + 1 + 1 + 1 + 1 by omega, take_bt (by omega), take_bt (by omega), take_bt (by omega), take_bt (by omega)]
    simp
theorem wds_lst {s : ByteArray} (h : s.size % 4 = 0) : wdsT (blkL s (s.size / 4)) = lst s := by
  rw [wds_take s _ (by omega), List.take_of_length_le (by rw [lst_len]; omega)]
end Go.Proofs.YtmmflekajbeamaaDoor

namespace Go.Proofs.YtmmflekajbeamaaDoor

/-! ### the check sum tells one byte from another -/
theorem xor_back (a b : Nat) : (a ^^^ b) ^^^ b = a := by rw [Nat.xor_assoc, Nat.xor_self, Nat.xor_zero]
theorem xor_inj {a b c : Nat} (h : a ^^^ c = b ^^^ c) : a = b := by rw [← xor_back a c, h, xor_back]
theorem cb_inj {x y : Nat} (hx : x < 4294967296) (hy : y < 4294967296) (h : cb x = cb y) : x = y := by
  have top : ∀ a, a < 2147483648 → (a ^^^ crcP).testBit 31 = true := fun a ha => by
    rw [Nat.testBit_xor, Nat.testBit_lt_two_pow (show a < 2 ^ 31 by omega)]; decide
  have low : ∀ a, a < 2147483648 → a.testBit 31 = false := fun a ha => Nat.testBit_lt_two_pow (show a < 2 ^ 31 by omega)
  unfold cb at h
  by_cases h1 : x % 2 = 1 <;> by_cases h2 : y % 2 = 1
  · rw [if_pos h1, if_pos h2] at h
    have := xor_inj h
    omega
  · rw [if_pos h1, if_neg h2] at h
    have t := top (x / 2) (by omega)
    rw [h, low (y / 2) (by omega)] at t
    cases t
  · rw [if_neg h1, if_pos h2] at h
    have t := top (y / 2) (by omega)
    rw [← h, low (x / 2) (by omega)] at t
    cases t
  · rw [if_neg h1, if_neg h2] at h
    omega
theorem cbN_inj {x y : Nat} (hx : x < 4294967296) (hy : y < 4294967296) : ∀ k, cbN k x = cbN k y → x = y
  | 0, h => h
  | k + 1, h => cbN_inj hx hy k (cb_inj (cbN_lt hx k) (cbN_lt hy k) h)
theorem xb_lt {x : Nat} (b : UInt8) (h : x < 4294967296) : x ^^^ b.toNat < 4294967296 := Nat.xor_lt_two_pow (n := 32) h (by have := b.toNat_lt; omega)
theorem crcB_inj {x y : Nat} (b : UInt8) (hx : x < 4294967296) (hy : y < 4294967296) (h : crcB x b = crcB y b) : x = y := by
  rw [← crcB_cb, ← crcB_cb] at h
  exact xor_inj (cbN_inj (xb_lt b hx) (xb_lt b hy) 8 h)
theorem crcB_byte {x : Nat} (b c : UInt8) (hx : x < 4294967296) (h : crcB x b = crcB x c) : b = c := by
  rw [← crcB_cb, ← crcB_cb] at h
  have := cbN_inj (xb_lt b hx) (xb_lt c hx) 8 h
  rw [Nat.xor_comm x, Nat.xor_comm x] at this
  exact UInt8.toNat_inj.1 (xor_inj this)
theorem crcF_inj (l : List UInt8) : ∀ x y, x < 4294967296 → y < 4294967296 → l.foldl crcB x = l.foldl crcB y → x = y := by
  induction l with
  | nil => intro x y _ _ h; exact h
  | cons b l ih => intro x y hx hy h; exact crcB_inj b hx hy (ih _ _ (crcB_lt b hx) (crcB_lt b hy) h)
theorem crc_one (u v : List UInt8) (b c : UInt8) (h : crc (u ++ b :: v) = crc (u ++ c :: v)) : b = c := by
  have h1 := crcG_lt (u ++ b :: v)
  have h2 := crcG_lt (u ++ c :: v)
  have hg : crcG (u ++ b :: v) = crcG (u ++ c :: v) := by unfold crc at h; omega
  unfold crcG at hg
  rw [List.foldl_append, List.foldl_append, List.foldl_cons, List.foldl_cons] at hg
  have hx := crcF_lt u 4294967295 (by decide)
  exact crcB_byte b c hx (crcF_inj v _ _ (crcB_lt b hx) (crcB_lt c hx) hg)
theorem crc_set (l : List UInt8) (j : Nat) (b : UInt8) (hj : j < l.length) (h : crc (l.set j b) = crc l) : l[j]? = some b := by
  have e1 : l = l.take j ++ l[j] :: l.drop (j + 1) := by rw [List.getElem_cons_drop, List.take_append_drop]
  have e2 : l.set j b = l.take j ++ b :: l.drop (j + 1) := List.set_eq_take_append_cons_drop.trans (if_pos hj)
  rw [e2] at h
  conv at h => rhs; rw [e1]
  rw [crc_one _ _ _ _ h]
  exact List.getElem?_eq_getElem hj

/-! ### a frame told is the first frame read -/
theorem frT_head (k : Nat) (p : List UInt8) : ∃ r, frT k p = 99 :: r := ⟨_, rfl⟩
theorem frst_dash (r : List UInt8) : frst (45 :: r) = none := by
  cases h : frst (45 :: r) with
  | none => rfl
  | some x =>
    obtain ⟨k, p⟩ := x
    obtain ⟨_, _, _, _, e, _⟩ := frst_some h
    obtain ⟨q, hq⟩ := frT_head k p
    rw [hq] at e
    simp at e
theorem frT_form (k : Nat) (p r : List UInt8) : frT k p ++ r = 99 :: UInt8.ofNat (k / 256 ^ 0 % 256) :: UInt8.ofNat (p.length / 256 ^ 1 % 256) :: UInt8.ofNat (p.length / 256 ^ 0 % 256) :: (p ++ (numB 4 (crc (frH k p)) ++ r)) := by
  unfold frT
  generalize numB 4 (crc (frH k p)) = S
  unfold frH
  simp [numB]
theorem frN_told (k : Nat) (p r : List UInt8) (hp : p.length ≤ 200) : frN (frT k p ++ r) = p.length := by
  rw [frT_form]
  simp only [frN, List.getD_cons_succ, List.getD_cons_zero]
  rw [UInt8.toNat_ofNat', UInt8.toNat_ofNat']
  omega
theorem kind_told (k : Nat) (p r : List UInt8) (hk : k ≤ 3) : ((frT k p ++ r).getD 1 0).toNat = k := by
  rw [frT_form]
  simp only [List.getD_cons_succ, List.getD_cons_zero]
  rw [UInt8.toNat_ofNat']
  omega
theorem pay_told (k : Nat) (p r : List UInt8) : ((frT k p ++ r).drop 4).take p.length = p := by
  rw [frT_form]
  simp
theorem frst_told (k : Nat) (p r : List UInt8) (h1 : 1 ≤ k) (hk : k ≤ 3) (hp : p.length ≤ 200) : frst (frT k p ++ r) = some (k, p) := by
  unfold frst
  rw [frN_told k p r hp, kind_told k p r hk, pay_told]
  rw [if_neg (by rw [List.length_append, frT_len]; omega), if_neg (by rw [List.length_append, frT_len]; omega), if_pos]
  refine ⟨h1, hk, hp, ?_⟩
  rw [← frT_len k p, List.take_left']
  rfl

/-! ### one byte turned -/
theorem set_at (l : List UInt8) (j i : Nat) (b : UInt8) (h : j ≠ i) : (l.set j b).getD i 0 = l.getD i 0 := by
  rw [List.getD_eq_getElem?_getD, List.getD_eq_getElem?_getD, List.getElem?_set_ne h]
theorem frst_spoilt (k : Nat) (p r : List UInt8) (j : Nat) (b : UInt8) (hp : p.length ≤ 200) (hj : j < p.length + 8) (h2 : j ≠ 2) (h3 : j ≠ 3) (hb : (frT k p)[j]? ≠ some b) : frst ((frT k p).set j b ++ r) = none := by
  cases h : frst ((frT k p).set j b ++ r) with
  | none => rfl
  | some x =>
    exfalso
    obtain ⟨k', p'⟩ := x
    obtain ⟨_, _, _, _, e, _, hn, _⟩ := frst_some h
    have hl : ((frT k p).set j b).length = p.length + 8 := by rw [List.length_set, frT_len]
    have hN : frN ((frT k p).set j b ++ r) = p.length := by
      have h0 := frN_told k p [] hp
      rw [List.append_nil] at h0
      have ea : (frT k p).set j b ++ r = (frT k p ++ r).set j b := (List.set_append_left _ _ (by rw [frT_len]; omega)).symm
      rw [ea]
      unfold frN
      rw [set_at _ _ _ _ h2, set_at _ _ _ _ h3]
      exact frN_told k p r hp
    rw [hN] at hn
    rw [hn, ← hl, List.take_left'] at e
    · have hH : (frH k p).length = p.length + 4 := frH_len k p
      have hH' : (frH k' p').length = p.length + 4 := by rw [frH_len, hn]
      by_cases hc : j < p.length + 4
      · have e1 : (frT k p).set j b = (frH k p).set j b ++ numB 4 (crc (frH k p)) := by unfold frT; exact List.set_append_left _ _ (by omega)
        rw [e1] at e
        unfold frT at e
        obtain ⟨ea, eb⟩ := List.append_inj e (by rw [List.length_set, hH, hH'])
        have hcc := numB_inj4 (crc_lt _) (crc_lt _) eb
        rw [← ea] at hcc
        have := crc_set (frH k p) j b (by omega) hcc.symm
        refine hb ?_
        unfold frT
        rw [List.getElem?_append_left (by omega)]
        exact this
      · have e1 : (frT k p).set j b = frH k p ++ (numB 4 (crc (frH k p))).set (j - (p.length + 4)) b := by unfold frT; rw [List.set_append_right _ _ (by omega), hH]
        rw [e1] at e
        unfold frT at e
        obtain ⟨ea, eb⟩ := List.append_inj e (by rw [hH, hH'])
        rw [← ea] at eb
        refine hb ?_
        unfold frT
        rw [List.getElem?_append_right (by omega), hH, ← eb, List.getElem?_set_self (by rw [numB_len]; omega)]
    · rfl

/-! ### the frames of an area -/
/-- An entry's payload. -/
def entP (x : List UInt8 × List UInt8) : List UInt8 := numB 1 (x.1.length / 4) ++ (x.1 ++ x.2)
structure EntOK (x : List UInt8 × List UInt8) : Prop where
  blk : blkB (bya x.1) = true
  few : x.1.length ≤ 32
  four : x.1.length % 4 = 0
  all : (entP x).length ≤ 200
def entsT (ws : List (List UInt8 × List UInt8)) : List UInt8 := (ws.map fun x => frT 2 (entP x)).flatten
theorem arT_ent (a : ArN) (x : List UInt8 × List UInt8) (hg : a.gen ≠ 0) (hx : EntOK x) : arT a 2 (entP x) = some ⟨a.gen, a.whole, a.good + ((entP x).length + 8), a.list ++ [x]⟩ := by
  obtain ⟨b, p⟩ := x
  have hfew := hx.few; have hfour := hx.four; have hblk := hx.blk
  simp only at hfew hfour hblk
  have hc : ((entP (b, p)).getD 0 0).toNat = b.length / 4 := by
    simp only [entP, numB, List.cons_append, List.getD_cons_zero]
    rw [UInt8.toNat_ofNat']
    omega
  have h4 : 4 * (b.length / 4) = b.length := by omega
  have hne : entP (b, p) ≠ [] := by simp [entP, numB]
  have hd : (entP (b, p)).drop 1 = b ++ p := by simp [entP, numB]
  have hl : (entP (b, p)).length = 1 + (b.length + p.length) := by simp [entP, numB]; omega
  unfold arT
  rw [if_neg hg, if_pos rfl, hc, h4, hd, List.take_left' rfl, if_pos ⟨hne, by omega, hblk⟩, ← List.drop_drop, hd, List.drop_left' rfl]
theorem scn_ents : ∀ (ws : List (List UInt8 × List UInt8)) (f : Nat) (a : ArN) (r : List UInt8), a.gen ≠ 0 → (∀ x ∈ ws, EntOK x) → frst r = none → (entsT ws ++ r).length < f → scn f a (entsT ws ++ r) = ⟨a.gen, a.whole, a.good + (entsT ws).length, a.list ++ ws⟩ := by
  intro ws
  induction ws with
  | nil =>
    intro f a r _ _ hr hf
    obtain ⟨f, rfl⟩ : ∃ g, f = g + 1 := ⟨f - 1, by omega⟩
    rw [show entsT [] ++ r = r from rfl, scn, hr]
    obtain ⟨g, w, o, l⟩ := a
    simp [entsT]
  | cons x ws ih =>
    intro f a r hg hx hr hf
    obtain ⟨f, rfl⟩ : ∃ g, f = g + 1 := ⟨f - 1, by omega⟩
    have e : entsT (x :: ws) = frT 2 (entP x) ++ entsT ws := by simp [entsT]
    have hx0 := hx x (by simp)
    rw [e, List.append_assoc, scn, frst_told 2 (entP x) _ (by decide) (by decide) hx0.all]
    simp only
    rw [arT_ent a x hg hx0]
    simp only
    rw [← frT_len 2 (entP x), List.drop_left' rfl, ih f ⟨a.gen, a.whole, a.good + (frT 2 (entP x)).length, a.list ++ [x]⟩ r hg (fun y hy => hx y (by simp [hy])) hr (by
      rw [e] at hf
      simp only [List.length_append, frT_len] at hf ⊢
      omega)]
    simp only [List.length_append, List.append_assoc, List.singleton_append, ArN.mk.injEq, true_and, and_true]
    omega
theorem scan_told (g : Nat) (ws : List (List UInt8 × List UInt8)) (r : List UInt8) (h0 : 0 < g) (h1 : g < 4294967296) (hx : ∀ x ∈ ws, EntOK x) (hr : frst r = none) :
    scan (frT 1 (numB 4 g) ++ (entsT ws ++ r)) = ⟨g, false, 12 + (entsT ws).length, ws⟩ := by
  have hl4 : (numB 4 g).length = 4 := numB_len 4 g
  have hbe : beN (bya (numB 4 g)) 0 4 = g := by
    have := numB_be (bya (numB 4 g)) 0
    refine numB_inj4 (by have := beN_lt (bya (numB 4 g)) 0 4; omega) h1 (this.trans ?_)
    simp [numB, bya, ByteArray.get!]
  unfold scan
  rw [scn, frst_told 1 (numB 4 g) _ (by decide) (by decide) (by omega)]
  simp only
  have ha : arT ar0 1 (numB 4 g) = some ⟨g, false, 12, []⟩ := by
    unfold arT
    rw [if_pos (show ar0.gen = 0 from rfl), hbe, if_pos ⟨rfl, hl4, by omega⟩, hl4]
    rfl
  rw [ha]
  simp only
  rw [← frT_len 1 (numB 4 g), List.drop_left' rfl, scn_ents ws _ _ r (by simp; omega) hx hr (by simp only [List.length_append, frT_len]; omega)]
  simp
theorem scan_none (r : List UInt8) (hr : frst r = none) : scan r = ar0 := by
  unfold scan
  rw [scn, hr]
end Go.Proofs.YtmmflekajbeamaaDoor
