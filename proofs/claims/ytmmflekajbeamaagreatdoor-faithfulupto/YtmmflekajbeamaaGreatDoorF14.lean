/-
  Frames, the document's answer: the first frame of a text (cribref.first).
  Frames: the first frame of a text (strings.HasPrefix, frame.first).
  Frames: an area in memory; frames that open and end one (takeOpen, takeWhole).
  The program's device, as it lies in memory: two areas' bytes, of which the first last, and the turn that fails; an append of a text whose new place is told.
-/
import Derived.Test.YtmmflekajbeamaaGreatDoorF13
import Derived.Test.YtmmflekajbeamaaGreatDoorF10
import Derived.Deep.RegionHeld3
import Derived.BigQuiet
import Derived.Test.YtmmflekajbeamaaGreatDoorF06
import Derived.Test.YtmmflekajbeamaaGreatDoorF05
import Derived.Test.YtmmflekajbeamaaGreatDoorF04
namespace Go.Proofs.YtmmflekajbeamaaGreatDoor
open Go.RowKit

theorem lst_get (s : ByteArray) (i : Nat) : (lst s).getD i 0 = s.get! i := by
  rw [← bya_get, bya_lst]
theorem frN_be (s : ByteArray) : frN (lst s) = beN s 2 2 := by
  unfold frN
  rw [lst_get, lst_get]
  simp only [beN, Nat.add_zero, Nat.reduceAdd]
  omega
theorem lst_ext (s : ByteArray) (a b : Nat) : lst (s.extract a b) = ((lst s).drop a).take (b - a) := by
  unfold lst
  rw [ByteArray.data_extract, Array.toList_extract, List.extract_eq_take_drop]
theorem lst_inj {s t : ByteArray} : lst s = lst t ↔ s = t := ⟨fun h => by rw [← bya_lst s, h, bya_lst], fun h => by rw [h]⟩
/-- The first frame of a text, by its parts. -/
theorem frst_eq (s : ByteArray) (h8 : 8 ≤ s.size) (hn : beN s 2 2 + 8 ≤ s.size) :
    ((sealOK (bt s 1 : Nat) (s.extract 4 (4 + beN s 2 2)) ∧ s.extract 0 (8 + beN s 2 2) = bya (frT (bt s 1) (lst (s.extract 4 (4 + beN s 2 2))))) → frst (lst s) = some (bt s 1, lst (s.extract 4 (4 + beN s 2 2)))) ∧ (¬ (sealOK (bt s 1 : Nat) (s.extract 4 (4 + beN s 2 2)) ∧ s.extract 0 (8 + beN s 2 2) = bya (frT (bt s 1) (lst (s.extract 4 (4 + beN s 2 2))))) → frst (lst s) = none) := by
  have e1 : ((lst s).getD 1 0).toNat = bt s 1 := by rw [lst_get]; rfl
  have e4 : lst (s.extract 4 (4 + beN s 2 2)) = ((lst s).drop 4).take (beN s 2 2) := by rw [lst_ext, show 4 + beN s 2 2 - 4 = beN s 2 2 by omega]
  have e0 : lst (s.extract 0 (8 + beN s 2 2)) = (lst s).take (beN s 2 2 + 8) := by rw [lst_ext, List.drop_zero, show 8 + beN s 2 2 - 0 = beN s 2 2 + 8 by omega]
  have ez : (s.extract 4 (4 + beN s 2 2)).size = beN s 2 2 := by rw [ByteArray.size_extract]; omega
  unfold frst
  rw [if_neg (by rw [lst_len]; omega), frN_be, if_neg (by rw [lst_len]; omega), e1, ← e4, ← e0]
  unfold sealOK
  rw [ez]
  have hiff : (1 ≤ bt s 1 ∧ bt s 1 ≤ 3 ∧ beN s 2 2 ≤ 200 ∧ lst (s.extract 0 (8 + beN s 2 2)) = frT (bt s 1) (lst (s.extract 4 (4 + beN s 2 2)))) ↔ ((1 ≤ ((bt s 1 : Nat) : Int) ∧ ((bt s 1 : Nat) : Int) ≤ 3 ∧ beN s 2 2 ≤ 200) ∧ s.extract 0 (8 + beN s 2 2) = bya (frT (bt s 1) (lst (s.extract 4 (4 + beN s 2 2))))) := by
    rw [← lst_inj, lst_bya]
    constructor
    · rintro ⟨a, b, c, d⟩
      exact ⟨⟨by omega, by omega, c⟩, d⟩
    · rintro ⟨⟨a, b, c⟩, d⟩
      exact ⟨by omega, by omega, c, d⟩
  exact ⟨fun h => by rw [if_pos (hiff.2 h)], fun h => by rw [if_neg (fun hc => h (hiff.1 hc))]⟩
theorem frst_short (s : ByteArray) (h : s.size < 8 ∨ s.size < beN s 2 2 + 8) : frst (lst s) = none := by
  unfold frst
  by_cases h8 : s.size < 8
  · rw [if_pos (by rw [lst_len]; exact h8)]
  · rw [if_neg (by rw [lst_len]; exact h8), frN_be, if_pos (by rw [lst_len]; omega)]
end Go.Proofs.YtmmflekajbeamaaGreatDoor

namespace Go.Proofs.YtmmflekajbeamaaGreatDoor
open Go.RowKit

def preS (s t : ByteArray) : Bool := decide (t.size ≤ s.size) && ((s.extract 0 t.size).toList == t.toList)
theorem preS_true {s t : ByteArray} : preS s t = true ↔ t.size ≤ s.size ∧ s.extract 0 t.size = t := by
  unfold preS
  rw [Bool.and_eq_true, decide_eq_true_eq, beq_iff_eq, ByteArray.toList_eq, ByteArray.toList_eq]
  exact ⟨fun h => ⟨h.1, lst_inj.1 h.2⟩, fun h => ⟨h.1, by rw [h.2]⟩⟩
set_option maxRecDepth 100000 in
set_option maxHeartbeats 1000000 in
theorem hasPre_any (s t : ByteArray) (w : World) :
    Calls Tryz.prog 223 #[.string s, .string t] w fun e' w' => e' = .returned (.bool (preS s t)) ∧ w' = w := by
  by_cases h : t.size ≤ s.size
  · have HP : Hid (((s.extract 0 t.size).toList == t.toList) = preS s t) := by unfold Hid preS; rw [decide_eq_true h, Bool.true_and]
    go_enter Tryz.func223, Tryz.ntmps223
    go_wp2
    go_ret
    exact ⟨ret_bool HP.out, rfl⟩
  · have HP : Hid (false = preS s t) := by unfold Hid preS; rw [decide_eq_false h, Bool.false_and]
    go_enter Tryz.func223, Tryz.ntmps223
    go_wp2
    go_ret
    exact ⟨ret_bool HP.out, rfl⟩
theorem ext_pay (s : ByteArray) (n : Nat) (h : 4 + n ≤ s.size) : (s.extract 4 s.size).extract 0 n = s.extract 4 (4 + n) := by
  rw [← lst_inj, lst_ext, lst_ext, lst_ext, List.drop_zero, Nat.sub_zero, List.take_take, Nat.min_eq_left (by omega), show 4 + n - 4 = n by omega]
/-- What the program's first frame is. -/
def frV (k : Int) (p : ByteArray) (n : Int) : Array Value := #[.int .i64 k, .string p, .int .i64 n]
def FstF (s : ByteArray) (e' : Ending) : Prop :=
  (frst (lst s) = none ∧ e' = .returned (.tuple #[.agg (frV 0 (bya []) 0), .bool false])) ∨ ∃ (K : Nat) (q : List UInt8), frst (lst s) = some (K, q) ∧ e' = .returned (.tuple #[.agg (frV K (bya q) ((q.length + 8 : Nat) : Int)), .bool true])
theorem frV_one (k : Int) (p : ByteArray) (n : Int) : (frV k p n).all (·.oneCell') = true := by simp [frV, Value.oneCell']
theorem wpList_storeF {ops : Array Oper} {rest : List Oper} {o : Oper} {a : Act} {w : World} {Q : Exit → Act → World → Prop} (hgd : o.guard = none) (x y : Operand) (ho : o.op = .store 236 x y)
    (g : Nat) (k : Int) (p : ByteArray) (n : Int) (hx : a.eval x = .pointer (some ⟨g, 0, none⟩)) (hy : a.eval y = .agg (frV k p n)) (old : Array Value) (hg : w.heap[g]? = some (.cells old 236 (0, 0))) (hold : old.size = 3)
    (h : wpList Tryz.prog ops Q rest (a.put o.dst undef) (w.setRow g (frV k p n))) : wpList Tryz.prog ops Q (o :: rest) a w :=
  wpList_store_row hgd 236 x y ho g (frV k p n) hx hy 236 old hg (show (Tryz.prog.info? 236).map (·.size) = some 3 by kernel_rfl) hold (frV_one k p n) h
theorem size149 : (Tryz.prog.info? 236).map (·.size) = some 3 := by kernel_rfl
theorem build149 (w : World) : (Instr.build 236 #[]).run Tryz.prog w = .ok (.agg (frV 0 (bya []) 0)) w := by kernel_rfl
theorem zero149 (w : World) : (zeroValue 236).run Tryz.prog w = .ok (.agg (frV 0 (bya []) 0)) w := by kernel_rfl
theorem res_F {fn : Func} {p u : Tmp} (h : fn.results = #[.cell p 236, .tmp u]) (tmps : Array Value) (w : World) (g : Nat) (c : Array Value) (hz : c.size = 3)
    (hp : tmps.getD p undef = .pointer (some ⟨g, 0, none⟩)) (hg : w.heap[g]? = some (.cells c 236 (0, 0))) (x : Value) (hu : tmps.getD u undef = x) :
    (results fn tmps).run Tryz.prog w = .ok (.tuple #[.agg c, x]) w := by
  rw [results_cell_tmp h, hp, hu]
  simp only [asAddr, Sem.run_pure, Result.andThen]
  rw [run_loadVar_row w g 236 236 c (0, 0) _ hg Tryz.underlying236 rfl (by rw [size149, hz])]

set_option maxRecDepth 100000 in
set_option maxHeartbeats 4000000 in
theorem frFirst_any (s : ByteArray) (w : World) (hs : s.size ≤ 4611686018427387904) :
    Calls Tryz.prog 187 #[.string s] w fun e' w' => Below w.heap.size w w' ∧ FstF s e' := by
  have bz := build149
  have zz := zero149
  have HW0 : Hid ((w.alloc (.cells (frV 0 (bya []) 0) 236)).heap[w.heap.size]? = some (.cells (frV 0 (bya []) 0) 236 (0, 0))) := _root_.Go.heap_alloc_new w _
  have HB0 := hide ((Below.refl w.heap.size w).alloc (Nat.le_refl _) (.cells (frV 0 (bya []) 0) 236))
  by_cases h4 : s.size < 4
  · have HN := hide (frst_short s (.inl (by omega)))
    have h4' : (s.size : Int) < 4 := by omega
    go_enter Tryz.func187, Tryz.ntmps187
    go_wp2_with (refine wpList_storeF rfl _ _ rfl w.heap.size 0 (bya []) 0 rfl rfl _ HW0.out rfl ?_)
    exact bodyPost_ret (v := .tuple #[.agg (frV 0 (bya []) 0), .bool false]) (res_F Tryz.results187 _ _ w.heap.size _ rfl rfl (setRow_heap _ _ _ _ _ (0, 0) HW0.out) _ rfl) rfl ⟨below_setRow HB0.out (Nat.le_refl _) _, .inl ⟨HN.out, rfl⟩⟩
  have h4' : ¬ (s.size : Int) < 4 := by omega
  have hg1 := bt_get s 1 (by omega)
  have hbl := bt_lt s 1
  have HRd := hide (fun w' => numRead_any (s.extract 2 4) w' (by rw [ByteArray.size_extract]; omega))
  rw [show (s.extract 2 4).size = 2 by rw [ByteArray.size_extract]; omega, show s.extract 2 4 = s.extract 2 (2 + 2) from rfl, extr_beN s 2 2 0 (by omega) 2 (by omega)] at HRd
  have ez : (s.extract 4 s.size).size = s.size - 4 := by rw [ByteArray.size_extract]; omega
  have hb : beN s 2 2 < 65536 := beN_lt s 2 2
  have hNm : (s.extract 4 s.size).size < beN s 2 2 → frst (lst s) = none := fun h => frst_short s (by omega)
  have e0 : (beN s 2 2 : Int) ≤ (s.size : Int) - 4 ∨ (s.size : Int) - 4 < (beN s 2 2 : Int) := by omega
  by_cases hgt : s.size - 4 < beN s 2 2
  · have HN := hide (frst_short s (by omega))
    have hgt' : (((s.extract 4 s.size).size : Nat) : Int) < (beN s 2 2 : Int) := by omega
    clear hNm e0
    generalize beN s 2 2 = n at *
    generalize bt s 1 = K at *
    go_enter Tryz.func187, Tryz.ntmps187
    go_upto_region 3 with fail
    go_quiet (fail)
    have HB1 := hide (below_drewN HB0.out nq)
    have HW1 : Hid (((w.alloc (.cells (frV 0 (bya []) 0) 236)).drewN nq).heap[w.heap.size]? = some (.cells (frV 0 (bya []) 0) 236 (0, 0))) := HW0.out
    generalize (w.alloc (.cells (frV 0 (bya []) 0) 236)).drewN nq = w1 at *
    go_wp2_with fail
    refine (unhide HRd _).mono ?_
    rintro e w' ⟨rfl, hw⟩
    obtain rfl := hw.symm
    go_wp2_with (refine wpList_storeF rfl _ _ rfl w.heap.size 0 (bya []) 0 rfl rfl _ HW1.out rfl ?_)
    exact bodyPost_ret (v := .tuple #[.agg (frV 0 (bya []) 0), .bool false]) (res_F Tryz.results187 _ _ w.heap.size _ rfl rfl (setRow_heap _ _ _ _ _ (0, 0) HW1.out) _ rfl) rfl ⟨below_setRow HB1.out (Nat.le_refl _) _, .inl ⟨HN.out, rfl⟩⟩
  have hle' : ¬ (((s.extract 4 s.size).size : Nat) : Int) < (beN s 2 2 : Int) := by omega
  have hle2 : (beN s 2 2 : Int) ≤ (((s.extract 4 s.size).size : Nat) : Int) := by omega
  have hpay := ext_pay s (beN s 2 2) (by omega)
  have HSl := hide (fun w' => frSeal_any (bt s 1 : Nat) (s.extract 4 (4 + beN s 2 2)) w')
  have HPy := hide hpay
  have hpz : (s.extract 4 (4 + beN s 2 2)).size = beN s 2 2 := by rw [ByteArray.size_extract]; omega
  -- the frame, if there is one
  have HY : Hid (sealOK (bt s 1 : Nat) (s.extract 4 (4 + beN s 2 2)) → preS s (bya (frT (bt s 1) (lst (s.extract 4 (4 + beN s 2 2))))) = true → frst (lst s) = some (bt s 1, lst (s.extract 4 (4 + beN s 2 2)))) := fun hok hp => by
    obtain ⟨h1, h2⟩ := preS_true.1 hp
    have hz : (bya (frT (bt s 1) (lst (s.extract 4 (4 + beN s 2 2))))).size = beN s 2 2 + 8 := by rw [bya_size, frT_len, lst_len, hpz]
    rw [hz] at h1 h2
    refine (frst_eq s (by omega) (by omega)).1 ⟨hok, ?_⟩
    rw [Nat.add_comm 8 (beN s 2 2)]
    exact h2
  have HNo : Hid ((¬ sealOK (bt s 1 : Nat) (s.extract 4 (4 + beN s 2 2)) ∨ preS s (bya (frT (bt s 1) (lst (s.extract 4 (4 + beN s 2 2))))) = false) → frst (lst s) = none) := fun h => by
    by_cases h8 : beN s 2 2 + 8 ≤ s.size
    · refine (frst_eq s (by omega) h8).2 (fun hh => ?_)
      rcases h with h | h
      · exact h hh.1
      · have hz : (bya (frT (bt s 1) (lst (s.extract 4 (4 + beN s 2 2))))).size = beN s 2 2 + 8 := by rw [bya_size, frT_len, lst_len, hpz]
        have : preS s (bya (frT (bt s 1) (lst (s.extract 4 (4 + beN s 2 2))))) = true := preS_true.2 ⟨by rw [hz]; exact h8, by rw [hz, Nat.add_comm (beN s 2 2) 8]; exact hh.2⟩
        rw [this] at h
        cases h
    · exact frst_short s (.inr (by omega))
  have HPz := hide hpz
  have HPr := hide (fun t w' => hasPre_any s t w')
  clear hNm e0 hpay hpz
  generalize beN s 2 2 = n at *
  generalize bt s 1 = K at *
  go_enter Tryz.func187, Tryz.ntmps187
  go_upto_region 3 with fail
  go_quiet (fail)
  have HB1 := hide (below_drewN HB0.out nq)
  have HW1 : Hid (((w.alloc (.cells (frV 0 (bya []) 0) 236)).drewN nq).heap[w.heap.size]? = some (.cells (frV 0 (bya []) 0) 236 (0, 0))) := HW0.out
  generalize (w.alloc (.cells (frV 0 (bya []) 0) 236)).drewN nq = w1 at *
  go_wp2_with fail
  refine (unhide HRd _).mono ?_
  rintro e w' ⟨rfl, hw⟩
  obtain rfl := hw.symm
  go_wp2_with fail
  rw [HPy.out]
  refine (unhide HSl _).mono ?_
  rintro e w2 ⟨hb2, ⟨hok, rfl⟩ | ⟨hno, rfl⟩⟩
  · have HB2 : Hid (Below w.heap.size w w2) := HB1.out.trans (hb2.mono (by have := HB1.out.size; omega))
    have HW2 : Hid (w2.heap[w.heap.size]? = some (.cells (frV 0 (bya []) 0) 236 (0, 0))) := (hb2.block _ (Array.getElem?_eq_some_iff.1 HW1.out).1).trans HW1.out
    have HOk := hide hok
    rw [Int.toNat_natCast]
    have HDs : Hid ((bya (frT K (lst (s.extract 4 (4 + n))))).size = (lst (s.extract 4 (4 + n))).length + 8) := by unfold Hid; rw [bya_size, frT_len]
    have HP := hide (HPr.out (bya (frT K (lst (s.extract 4 (4 + n))))))
    have HPb : Hid (bya (lst (s.extract 4 (4 + n))) = s.extract 4 (4 + n)) := bya_lst _
    cases hp : preS s (bya (frT K (lst (s.extract 4 (4 + n)))))
    · rw [hp] at HP
      have HN := hide (HNo.out (.inr hp))
      clear hp hb2 hok HSl HY HNo
      generalize bya (frT K (lst (s.extract 4 (4 + n)))) = D at *
      go_wp2_with fail
      refine (unhide HP _).mono ?_
      rintro e w' ⟨rfl, hw⟩
      obtain rfl := hw.symm
      go_wp2_with (refine wpList_storeF rfl _ _ rfl w.heap.size 0 (bya []) 0 rfl rfl _ HW2.out rfl ?_)
      exact bodyPost_ret (v := .tuple #[.agg (frV 0 (bya []) 0), .bool false]) (res_F Tryz.results187 _ _ w.heap.size _ rfl rfl (setRow_heap _ _ _ _ _ (0, 0) HW2.out) _ rfl) rfl ⟨below_setRow HB2.out (Nat.le_refl _) _, .inl ⟨HN.out, rfl⟩⟩
    · rw [hp] at HP
      have HN := hide (HY.out HOk.out hp)
      clear hp hb2 hok HSl HY HNo
      generalize bya (frT K (lst (s.extract 4 (4 + n)))) = D at *
      go_wp2_with fail
      refine (unhide HP _).mono ?_
      rintro e w' ⟨rfl, hw⟩
      obtain rfl := hw.symm
      go_wp2_with (refine wpList_storeF rfl _ _ rfl w.heap.size K (s.extract 4 (4 + n)) (D.size : Int) rfl rfl _ HW2.out rfl ?_)
      refine bodyPost_ret (v := .tuple #[.agg (frV K (s.extract 4 (4 + n)) (D.size : Int)), .bool true]) (res_F Tryz.results187 _ _ w.heap.size _ rfl rfl (setRow_heap _ _ _ _ _ (0, 0) HW2.out) _ rfl) rfl ⟨below_setRow HB2.out (Nat.le_refl _) _, .inr ⟨_, _, HN.out, ?_⟩⟩
      rw [HPb.out, HDs.out]
  · have HB2 : Hid (Below w.heap.size w w2) := HB1.out.trans (hb2.mono (by have := HB1.out.size; omega))
    have HW2 : Hid (w2.heap[w.heap.size]? = some (.cells (frV 0 (bya []) 0) 236 (0, 0))) := (hb2.block _ (Array.getElem?_eq_some_iff.1 HW1.out).1).trans HW1.out
    have HN := hide (HNo.out (.inl hno))
    clear hb2 hno HSl HY HNo
    go_wp2_with (refine wpList_storeF rfl _ _ rfl w.heap.size 0 (bya []) 0 rfl rfl _ HW2.out rfl ?_)
    exact bodyPost_ret (v := .tuple #[.agg (frV 0 (bya []) 0), .bool false]) (res_F Tryz.results187 _ _ w.heap.size _ rfl rfl (setRow_heap _ _ _ _ _ (0, 0) HW2.out) _ rfl) rfl ⟨below_setRow HB2.out (Nat.le_refl _) _, .inl ⟨HN.out, rfl⟩⟩
end Go.Proofs.YtmmflekajbeamaaGreatDoor

namespace Go.Proofs.YtmmflekajbeamaaGreatDoor
open Go.RowKit

def knCs (l : List (List UInt8 × List UInt8)) : List Value := l.flatMap fun x => [.string (bya x.1), .string (bya x.2)]
theorem knCs_snoc (l : List (List UInt8 × List UInt8)) (x : List UInt8 × List UInt8) : knCs (l ++ [x]) = knCs l ++ [.string (bya x.1), .string (bya x.2)] := by simp [knCs]
def arV (gen : Nat) (whole : Bool) (good : Nat) (v : Value) : Array Value := #[.int .i64 (gen : Int), .bool whole, .int .i64 (good : Int), v]
/-- An area as it lies in memory. -/
structure ArAt (A : Nat) (a : ArN) (v : Value) (w : World) : Prop where
  cells : w.heap[A]? = some (.cells (arV a.gen a.whole a.good v) 175 (0, 0))
  list : w.ownsRow (A + 1) 127 2 v a.list.length (knCs a.list)
/-- What a call keeps that turns an area. -/
def TkFr (A : Nat) (v : Value) (w w' : World) : Prop := Below A w w' ∧ ∀ g, g < w.heap.size → g ≠ A → v.ownBlock ≠ some g → w'.heap[g]? = w.heap[g]?
theorem ArAt.lt {A : Nat} {a : ArN} {v : Value} {w : World} (h : ArAt A a v w) : A < w.heap.size := (Array.getElem?_eq_some_iff.1 h.cells).1
theorem ArAt.cell {A : Nat} {a : ArN} {v : Value} {w : World} (h : ArAt A a v w) (i : Nat) : w.cell? ⟨A, i, none⟩ = (arV a.gen a.whole a.good v)[i]? := cell_row h.cells i
theorem ArAt.frozen {A : Nat} {a : ArN} {v : Value} {w : World} (h : ArAt A a v w) (i : Nat) : w.frozen? ⟨A, i, none⟩ = false := by simp [World.frozen?, h.cells]
theorem ArAt.own {A : Nat} {a : ArN} {v : Value} {w : World} (h : ArAt A a v w) : v.ownBlock ≠ some A := fun e => by
  have := (row_lt h.list A e).1
  omega
theorem ArAt.above {A : Nat} {a : ArN} {v : Value} {w w' : World} (h : ArAt A a v w) (hb : Below w.heap.size w w') : ArAt A a v w' :=
  ⟨(hb.block _ h.lt).trans h.cells, own_grow h.list hb⟩
theorem TkFr.of_above {A : Nat} {v : Value} {w w' : World} (hA : A < w.heap.size) (hb : Below w.heap.size w w') : TkFr A v w w' :=
  ⟨hb.mono (Nat.le_of_lt hA), fun g hg _ _ => hb.block g hg⟩
/-- A cell of the area that is not its list is turned. -/
theorem ArAt.turn {A : Nat} {a a' : ArN} {v : Value} {w : World} (h : ArAt A a v w) (i : Nat) (x : Value) (hl : a'.list = a.list) (hx : (arV a.gen a.whole a.good v).setIfInBounds i x = arV a'.gen a'.whole a'.good v) : ArAt A a' v (w.setCell ⟨A, i, none⟩ x) := by
  refine ⟨?_, ?_⟩
  · obtain ⟨hlt, hk⟩ := Array.getElem?_eq_some_iff.1 h.cells
    show (w.heap.modify A _)[A]? = _
    rw [Array.getElem?_eq_getElem (by rw [Array.size_modify]; exact hlt), Array.getElem_modify_self, hk, ← hx]
    rfl
  · rw [hl]
    refine ownsRow_keep h.list (fun g hg => heap_set_other _ _ (fun e => ?_))
    subst e
    exact h.own hg
theorem TkFr.turn {A : Nat} {v : Value} {w w' : World} (h : TkFr A v w w') (i : Nat) (x : Value) : TkFr A v w (w'.setCell ⟨A, i, none⟩ x) :=
  ⟨h.1.setCell (p := ⟨A, i, none⟩) (Nat.le_refl _) _, fun g hg hn ho => (heap_set_other _ _ hn).trans (h.2 g hg hn ho)⟩

theorem TkFr.refl (A : Nat) (v : Value) (w : World) : TkFr A v w w := ⟨Below.refl _ _, fun _ _ _ _ => rfl⟩
theorem TkFr.alloc {A : Nat} {v : Value} {w w' : World} (h : TkFr A v w w') (hA : A < w.heap.size) (o : Obj) : TkFr A v w (w'.alloc o) :=
  ⟨h.1.alloc (by have := h.1.size; omega) o, fun g hg hn ho => (Below.heap_alloc w' _ _ (by have := h.1.size; omega)).trans (h.2 g hg hn ho)⟩
theorem ArAt.alloc {A : Nat} {a : ArN} {v : Value} {w : World} (h : ArAt A a v w) (o : Obj) : ArAt A a v (w.alloc o) := h.above ((Below.refl _ _).alloc (Nat.le_refl _) o)
/-- What taking a frame leaves: the area's good bytes are not counted yet. -/
def TkPost (A : Nat) (a : ArN) (v : Value) (r : Option ArN) (w : World) (e' : Ending) (w' : World) : Prop :=
  TkFr A v w w' ∧ ((∃ a' v', r = some a' ∧ e' = .returned (.bool true) ∧ ArAt A ⟨a'.gen, a'.whole, a.good, a'.list⟩ v' w' ∧ (∀ g, v'.ownBlock = some g → v.ownBlock = some g ∨ w.heap.size ≤ g)) ∨ (r = none ∧ e' = .returned (.bool false) ∧ ArAt A a v w'))
def rOpen (a : ArN) (K : Nat) (q : List UInt8) : Option ArN := if K = 1 ∧ q.length = 4 ∧ beN (bya q) 0 4 ≠ 0 then some ⟨beN (bya q) 0 4, a.whole, a.good + (q.length + 8), a.list⟩ else none
def rWhole (a : ArN) (q : List UInt8) : Option ArN := if a.whole = false ∧ q = [] then some ⟨a.gen, true, a.good + (q.length + 8), a.list⟩ else none

set_option maxRecDepth 100000 in
set_option maxHeartbeats 2000000 in
/-- An Open frame at the beginning of an area. -/
theorem takeOpen_any (A : Nat) (a : ArN) (v : Value) (K : Nat) (q : List UInt8) (n : Int) (w : World) (h : ArAt A a v w) (hg : a.gen = 0) :
    Calls Tryz.prog 224 #[.pointer (some ⟨A, 0, none⟩), .agg #[.int .i64 (K : Int), .string (bya q), .int .i64 n]] w (TkPost A a v (rOpen a K q) w) := by
  have HZ : Hid ((bya q).size = q.length) := bya_size q
  have hA := h.lt
  have hne : ¬ A = w.heap.size := by omega
  have g0 : w.cell? ⟨A, 0, none⟩ = some (.int .i64 (a.gen : Int)) := h.cell 0
  have f0 := h.frozen 0
  have HNo : Hid (∀ o, rOpen a K q = none → TkPost A a v (rOpen a K q) w (.returned (.bool false)) (w.alloc o)) := fun o hr => ⟨(TkFr.refl A v w).alloc hA o, .inr ⟨hr, rfl, h.alloc o⟩⟩
  have HZero : Hid (∀ o, rOpen a K q = none → TkPost A a v (rOpen a K q) w (.returned (.bool false)) ((w.setCell ⟨A, 0, none⟩ (.int .i64 0)).alloc o)) := fun o hr => by
    refine ⟨((TkFr.refl A v w).turn 0 _).alloc hA o, .inr ⟨hr, rfl, ?_⟩⟩
    refine (h.turn (a' := a) 0 (.int .i64 0) rfl ?_).alloc o
    rw [hg]
    rfl
  have HYes : Hid (∀ o, (K = 1 ∧ q.length = 4 ∧ beN (bya q) 0 4 ≠ 0) → TkPost A a v (rOpen a K q) w (.returned (.bool true)) ((w.setCell ⟨A, 0, none⟩ (.int .i64 (beN (bya q) 0 4 : Int))).alloc o)) := fun o hr =>
    ⟨((TkFr.refl A v w).turn 0 _).alloc hA o, .inl ⟨_, v, if_pos hr, rfl, (h.turn (a' := ⟨beN (bya q) 0 4, a.whole, a.good, a.list⟩) 0 _ rfl rfl).alloc o, fun g hg => .inl hg⟩⟩
  have HR : Hid (¬ (K = 1 ∧ q.length = 4 ∧ beN (bya q) 0 4 ≠ 0) → rOpen a K q = none) := fun hc => if_neg hc
  clear h
  generalize rOpen a K q = R at *
  generalize bya q = D at *
  by_cases hc : K = 1 ∧ q.length = 4
  · obtain ⟨rfl, hl⟩ := hc
    have hz' : (D.size : Int) = 4 := by have := HZ.out; omega
    have HRd := hide (fun w' => numRead_any D w' (by omega))
    rw [show D.size = 4 by omega] at HRd
    have HL := hide hl
    clear hl
    have hbl : beN D 0 4 < 4294967296 := beN_lt D 0 4
    generalize beN D 0 4 = X at *
    by_cases hx0 : X = 0
    · subst hx0
      have HN := hide (HR.out (fun hh => hh.2.2 rfl))
      go_enter Tryz.func224, Tryz.ntmps224
      go_wp2_with fail
      refine (unhide HRd _).mono ?_
      rintro e w' ⟨rfl, hw⟩
      obtain rfl := hw.symm
      go_wp2_with fail
      go_ret
      exact HZero.out _ HN.out
    · have hx1 : (0 : Int) < (X : Int) := by omega
      have hx2 : decide (0 < X) = true := by rw [decide_eq_true_eq]; omega
      have HY := hide (fun o => HYes.out o ⟨rfl, HL.out, hx0⟩)
      go_enter Tryz.func224, Tryz.ntmps224
      go_wp2_with fail
      refine (unhide HRd _).mono ?_
      rintro e w' ⟨rfl, hw⟩
      obtain rfl := hw.symm
      go_wp2_with fail
      go_ret
      exact HY.out _
  · have HN := hide (HR.out (fun hh => hc ⟨hh.1, hh.2.1⟩))
    by_cases hk : K = 1
    · subst hk
      have hz' : ((D.size : Int) == 4) = false := by have := HZ.out; rw [beq_eq_false_iff_ne]; intro e; exact hc ⟨rfl, by omega⟩
      clear hc
      go_enter Tryz.func224, Tryz.ntmps224
      go_wp2_with fail
      go_ret
      exact HNo.out _ HN.out
    · have hk' : ((K : Int) == 1) = false := by rw [beq_eq_false_iff_ne]; omega
      clear hc
      go_enter Tryz.func224, Tryz.ntmps224
      go_wp2_with fail
      go_ret
      exact HNo.out _ HN.out

theorem bya_ne {q : List UInt8} (h : q ≠ []) : ((bya q).toList == ([] : List UInt8)) = false := by
  rw [beq_eq_false_iff_ne, ByteArray.toList_eq]
  intro e
  apply h
  rw [← bya_list q]
  exact e
set_option maxRecDepth 100000 in
set_option maxHeartbeats 2000000 in
/-- A Whole frame. -/
theorem takeWhole_any (A : Nat) (a : ArN) (v : Value) (K : Nat) (q : List UInt8) (n : Int) (w : World) (h : ArAt A a v w) :
    Calls Tryz.prog 226 #[.pointer (some ⟨A, 0, none⟩), .agg #[.int .i64 (K : Int), .string (bya q), .int .i64 n]] w (TkPost A a v (rWhole a q) w) := by
  have hA := h.lt
  have hne : ¬ A = w.heap.size := by omega
  have g1 : w.cell? ⟨A, 1, none⟩ = some (.bool a.whole) := h.cell 1
  have f1 := h.frozen 1
  have HNo : Hid (∀ o, rWhole a q = none → TkPost A a v (rWhole a q) w (.returned (.bool false)) (w.alloc o)) := fun o hr => ⟨(TkFr.refl A v w).alloc hA o, .inr ⟨hr, rfl, h.alloc o⟩⟩
  have HYes : Hid (∀ o, (a.whole = false ∧ q = []) → TkPost A a v (rWhole a q) w (.returned (.bool true)) ((w.setCell ⟨A, 1, none⟩ (.bool true)).alloc o)) := fun o hr =>
    ⟨((TkFr.refl A v w).turn 1 _).alloc hA o, .inl ⟨_, v, if_pos hr, rfl, (h.turn (a' := ⟨a.gen, true, a.good, a.list⟩) 1 _ rfl rfl).alloc o, fun g hg => .inl hg⟩⟩
  have HR : Hid (¬ (a.whole = false ∧ q = []) → rWhole a q = none) := fun hc => if_neg hc
  clear h
  generalize rWhole a q = R at *
  cases hwh : a.whole
  · rw [hwh] at g1
    by_cases hq : q = []
    · have HY := hide (fun o => HYes.out o ⟨hwh, hq⟩)
      subst hq
      have hqb : ((bya []).toList == ([] : List UInt8)) = true := by rw [ByteArray.toList_eq, bya_list]; rfl
      go_enter Tryz.func226, Tryz.ntmps226
      go_wp2_with fail
      go_ret
      exact HY.out _
    · have hqb := bya_ne hq
      have HN := hide (HR.out (fun hh => hq hh.2))
      clear hq
      go_enter Tryz.func226, Tryz.ntmps226
      go_wp2_with fail
      go_ret
      exact HNo.out _ HN.out
  · rw [hwh] at g1
    have HN := hide (HR.out (fun hh => by rw [hwh] at hh; cases hh.1))
    go_enter Tryz.func226, Tryz.ntmps226
    go_wp2_with fail
    go_ret
    exact HNo.out _ HN.out
end Go.Proofs.YtmmflekajbeamaaGreatDoor

namespace Go.Proofs.YtmmflekajbeamaaGreatDoor
open Go.RowKit

section
variable {P : Program} (w : World)
theorem append_where (base : Nat) (t u ty e : TypeId) (i : TypeInfo) (ht : P.underlying t = some (.slice e)) (hu : P.underlying u = some .string) (hi : P.info? e = some i) (hz : i.zero = some (.int .u8 0))
    (hsize : i.size = 1) (hby : i.bytes = 1) (v : Value) (n : Nat) (xs : List Value) (hown : w.ownsRow base e 1 v n xs) (s : ByteArray) (h63 : n + s.size ≤ maxLen) (hbytes : n + s.size ≤ 140737488355328)
    (v' : Value) (w' : World) (hr : (Builtin.append_ #[t, u] ty #[v, .string s]).run P w = .ok v' w') : v'.ownBlock = v.ownBlock ∨ v'.ownBlock = some w.heap.size := by
  have hsmall : n + s.size ≤ 9223372036854775807 := by simp only [maxLen] at h63; omega
  have hxl : xs.length = n := by simpa using hown.1
  rcases hown.2 with ⟨rfl, rfl⟩ | ⟨g, cap, cur, rfl, hbg, hg, hnc, hcm, hcs, htake⟩
  · by_cases hm : s.size = 0
    · have hf := Lib.run_firstCells_string (P := P) w 1 s
      rw [hm] at hf
      have hr2 : (Builtin.append_ #[t, u] ty #[.slice none 0 0, .string s]).run P w = .ok (.slice none 0 0) w := by
        simp [Builtin.append_, run_underlying ht, run_underlying hu, sizeOf, typeInfo, hi, hsize, Builtin.lenOf, hm, hf]
      rw [hr2] at hr
      cases hr
      exact .inl rfl
    · have hr2 := run_append_nil_string (P := P) w t u ty e i (.int .u8 0) ht hu hi hz s (by omega) (by omega) (by rw [hby]; omega)
      rw [hr2] at hr
      cases hr
      exact .inr rfl
  · by_cases hroom : n + s.size ≤ cap
    · have hcs' : cur.size = cap := by simpa using hcs
      have hr2 := Lib.run_append_room_string (P := P) w t u ty e i ht hu hi hsize g n cap cur hg s hroom (by omega)
      rw [hr2] at hr
      cases hr
      exact .inl rfl
    · have holds : ∀ j u, xs[j]? = some u → w.cell? ((⟨g, 0, none⟩ : Addr).add j) = some u := hown.cells (g := g) rfl
      have hr2 := Lib.run_append_grow_string (P := P) w t u ty e i (.int .u8 0) ht hu hi hz ⟨g, 0, none⟩ n cap xs (by rw [hsize]; simpa using hxl) holds s (by omega) (by omega) (by rw [hby]; exact growslice_fits (by omega) (by omega))
      rw [hr2] at hr
      cases hr
      exact .inr rfl
theorem wp_append_str {o : Oper} {a : Act} {K : Act → World → Prop} {Q : Exit → Act → World → Prop} (sl x : Operand) (t u : TypeId)
    (ho : o.op = .call { callee := .builtin .append, args := #[sl, x], argTypes := #[t, u] })
    (base : Nat) (e : TypeId) (i : TypeInfo) (ht : P.underlying t = some (.slice e)) (hu : P.underlying u = some .string) (hi : P.info? e = some i) (hz : i.zero = some (.int .u8 0))
    (hsize : i.size = 1) (hby : i.bytes = 1)
    (v : Value) (n : Nat) (xs : List Value) (hs : a.eval sl = v) (hown : w.ownsRow base e 1 v n xs) (s : ByteArray) (hx : a.eval x = .string s)
    (h63 : n + s.size ≤ maxLen) (hbytes : n + s.size ≤ 140737488355328) (hbase : base ≤ w.heap.size)
    (h : ∀ v' w', w'.ownsRow base e 1 v' (n + s.size) (xs ++ Lib.strCells s) → w.grownBy w' v.ownBlock → (v'.ownBlock = v.ownBlock ∨ v'.ownBlock = some w.heap.size) → K (a.put o.dst v') w') : o.wp P a w K Q := by
  obtain ⟨v', w', hr, h2, h3, _⟩ := Lib.run_append_own_string (P := P) w base t u o.type e i ht hu hi hz hsize hby v n xs hown s h63 hbytes hbase
  have h4 := append_where (P := P) w base t u o.type e i ht hu hi hz hsize hby v n xs hown s h63 hbytes v' w' hr
  unfold Oper.wp execOp
  simp only [ho, resolve, invoke, builtin, Sem.run_bind, Sem.run_pure, Result.andThen_ok, List.map_toArray, List.map_cons, List.map_nil, hs, hx, hr]
  exact h v' w' h2 h3 h4
theorem wpList_append_str {ops : Array Oper} {rest : List Oper} {o : Oper} {a : Act} {Q : Exit → Act → World → Prop} (hgd : o.guard = none) (sl x : Operand) (t u : TypeId)
    (ho : o.op = .call { callee := .builtin .append, args := #[sl, x], argTypes := #[t, u] })
    (base : Nat) (e : TypeId) (i : TypeInfo) (ht : P.underlying t = some (.slice e)) (hu : P.underlying u = some .string) (hi : P.info? e = some i) (hz : i.zero = some (.int .u8 0))
    (hsize : i.size = 1) (hby : i.bytes = 1)
    (v : Value) (n : Nat) (xs : List Value) (hs : a.eval sl = v) (hown : w.ownsRow base e 1 v n xs) (s : ByteArray) (hx : a.eval x = .string s)
    (h63 : n + s.size ≤ maxLen) (hbytes : n + s.size ≤ 140737488355328) (hbase : base ≤ w.heap.size)
    (h : ∀ v' w', w'.ownsRow base e 1 v' (n + s.size) (xs ++ Lib.strCells s) → w.grownBy w' v.ownBlock → (v'.ownBlock = v.ownBlock ∨ v'.ownBlock = some w.heap.size) → wpList P ops Q rest (a.put o.dst v') w') : wpList P ops Q (o :: rest) a w :=
  wpList_plain hgd fun _ hK => wp_append_str w sl x t u ho base e i ht hu hi hz hsize hby v n xs hs hown s hx h63 hbytes hbase fun v' w' h2 h3 h4 => hK _ _ (h v' w' h2 h3 h4)
end

/-- A function with one value another. -/
def upd {α : Type} (f : Nat → α) (i : Nat) (x : α) : Nat → α := fun j => if j = i then x else f j
theorem upd_at {α : Type} (f : Nat → α) (i : Nat) (x : α) : upd f i x i = x := by simp [upd]
theorem upd_ne {α : Type} (f : Nat → α) (i j : Nat) (x : α) (h : j ≠ i) : upd f i x j = f j := by simp [upd, h]
/-- A device of the program: of each area the bytes and how many of them last; the turn that fails; the number of the engine. -/
structure DvN where
  b : Nat → List UInt8
  n : Nat → Nat
  tr : Nat
  wk : Int
def DvN.tick (d : DvN) : DvN := { d with tr := d.tr - 1 }
structure DvAt (D : Nat) (d : DvN) (vs : Nat → Value) (w : World) : Prop where
  lt : D < w.heap.size
  fz : ∀ j, w.frozen? ⟨D, j, none⟩ = false
  bytes : ∀ i, i < 2 → w.cell? ⟨D, i * 2, none⟩ = some (vs i)
  last : ∀ i, i < 2 → w.cell? ⟨D, i * 2 + 1, none⟩ = some (.int .i64 (d.n i : Int))
  tr : w.cell? ⟨D, 4, none⟩ = some (.int .i64 (d.tr : Int))
  wk : w.cell? ⟨D, 5, none⟩ = some (.int .i64 d.wk)
  own : ∀ i, i < 2 → w.ownsRow (D + 1) 5 1 (vs i) (d.b i).length (u8C (d.b i))
  len : ∀ i, i < 2 → (d.b i).length ≤ 1500
  sep : ∀ i j, i < 2 → j < 2 → i ≠ j → ∀ g, (vs i).ownBlock = some g → (vs j).ownBlock ≠ some g
  trb : (d.tr : Int) ≤ 9223372036854775807
/-- What a call of a device leaves as it was. -/
structure DFr (D : Nat) (vs vs' : Nat → Value) (w w' : World) : Prop where
  below : Below D w w'
  other : ∀ g, g < w.heap.size → g ≠ D → (∀ i, i < 2 → (vs i).ownBlock ≠ some g) → w'.heap[g]? = w.heap[g]?
  own : ∀ i, i < 2 → ∀ g, (vs' i).ownBlock = some g → (vs i).ownBlock = some g ∨ w.heap.size ≤ g
theorem DFr.refl (D : Nat) (vs : Nat → Value) (w : World) : DFr D vs vs w w := ⟨Below.refl _ _, fun _ _ _ _ => rfl, fun _ _ _ h => .inl h⟩
theorem DFr.trans {D : Nat} {v0 v1 v2 : Nat → Value} {a b c : World} (h : DFr D v0 v1 a b) (k : DFr D v1 v2 b c) : DFr D v0 v2 a c := by
  refine ⟨h.below.trans k.below, fun g hg hn hv => ?_, fun i hi g hg => ?_⟩
  · refine (k.other g (Nat.lt_of_lt_of_le hg h.below.size) hn (fun i hi e => ?_)).trans (h.other g hg hn hv)
    rcases h.own i hi g e with q | q
    · exact hv i hi q
    · omega
  · rcases k.own i hi g hg with q | q
    · exact h.own i hi g q
    · exact .inr (Nat.le_trans h.below.size q)
theorem DvAt.up {D : Nat} {d : DvN} {vs : Nat → Value} {w w' : World} (h : DvAt D d vs w) (hs : w.heap.size ≤ w'.heap.size) (hD : w'.heap[D]? = w.heap[D]?) (hv : ∀ i, i < 2 → ∀ g, (vs i).ownBlock = some g → w'.heap[g]? = w.heap[g]?) : DvAt D d vs w' :=
  ⟨Nat.lt_of_lt_of_le h.lt hs, fun j => (World.frozen?_of_block hD).trans (h.fz j), fun i hi => (World.cell?_of_block hD).trans (h.bytes i hi), fun i hi => (World.cell?_of_block hD).trans (h.last i hi), (World.cell?_of_block hD).trans h.tr, (World.cell?_of_block hD).trans h.wk, fun i hi => ownsRow_keep (h.own i hi) (hv i hi), h.len, h.sep, h.trb⟩
theorem cell_off {w : World} {D j k : Nat} {x : Value} (h : j ≠ k) : (w.setCell ⟨D, j, none⟩ x).cell? ⟨D, k, none⟩ = w.cell? ⟨D, k, none⟩ :=
  World.cell?_setCell_other w ⟨D, j, none⟩ ⟨D, k, none⟩ x (fun q => h (by cases q; rfl))
theorem set_other {w : World} {D g j : Nat} {x : Value} (h : g ≠ D) : (w.setCell ⟨D, j, none⟩ x).heap[g]? = w.heap[g]? := heap_set_other _ _ h
theorem set_size {w : World} {D j : Nat} {x : Value} : (w.setCell ⟨D, j, none⟩ x).heap.size = w.heap.size := by simp [World.setCell]
theorem own_ne {D : Nat} {d : DvN} {vs : Nat → Value} {w : World} (h : DvAt D d vs w) {i : Nat} (hi : i < 2) {g : Nat} (hg : (vs i).ownBlock = some g) : g ≠ D ∧ g < w.heap.size := by
  have := row_lt (h.own i hi) g hg
  omega
/-- The trouble's cell. -/
theorem DvAt.setTr {D : Nat} {d : DvN} {vs : Nat → Value} {w : World} (h : DvAt D d vs w) (t : Nat) (ht : (t : Int) ≤ 9223372036854775807) : DvAt D { d with tr := t } vs (w.setCell ⟨D, 4, none⟩ (.int .i64 (t : Int))) ∧ DFr D vs vs w (w.setCell ⟨D, 4, none⟩ (.int .i64 (t : Int))) := by
  refine ⟨⟨by rw [set_size]; exact h.lt, fun j => by rw [World.frozen?_setCell]; exact h.fz j, fun i hi => (cell_off (by omega)).trans (h.bytes i hi), fun i hi => (cell_off (by omega)).trans (h.last i hi), World.cell?_setCell_same _ _ _ h.tr, (cell_off (by decide)).trans h.wk, fun i hi => ownsRow_keep (h.own i hi) (fun g hg => set_other (own_ne h hi hg).1), h.len, h.sep, ht⟩, ⟨(Below.refl _ _).setCell (p := ⟨D, 4, none⟩) (Nat.le_refl _) _, fun g _ hn _ => set_other hn, fun _ _ _ hg => .inl hg⟩⟩
theorem own_from {v u : Value} {k : Nat} (h : v.ownBlock = u.ownBlock ∨ v.ownBlock = some k) : ∀ g, v.ownBlock = some g → u.ownBlock = some g ∨ k ≤ g := fun g e => by
  rcases h with q | q
  · exact .inl (q ▸ e)
  · rw [q] at e; cases e; exact .inr (Nat.le_refl _)
/-- An area's bytes, behind an append. -/
theorem DvAt.setB {D : Nat} {d : DvN} {vs : Nat → Value} {w w3 : World} (h : DvAt D d vs w) {i : Nat} (hi : i < 2) {v : Value} {b : List UInt8} (ho : w3.ownsRow (D + 1) 5 1 v b.length (u8C b)) (hg : w.grownBy w3 (vs i).ownBlock)
    (hw : ∀ g, v.ownBlock = some g → (vs i).ownBlock = some g ∨ w.heap.size ≤ g) (hl : b.length ≤ 1500) :
    DvAt D { d with b := upd d.b i b } (upd vs i v) (w3.setCell ⟨D, i * 2, none⟩ v) ∧ DFr D vs (upd vs i v) w (w3.setCell ⟨D, i * 2, none⟩ v) := by
  have hD : w3.heap[D]? = w.heap[D]? := hg.block D h.lt (fun e => (own_ne h hi e.symm).1 rfl)
  have hv : ∀ j, j < 2 → j ≠ i → ∀ g, (vs j).ownBlock = some g → w3.heap[g]? = w.heap[g]? := fun j hj hji g hgj => hg.block g (own_ne h hj hgj).2 (fun e => h.sep j i hj hi hji g hgj e.symm)
  have hvD : ∀ g, v.ownBlock = some g → g ≠ D := fun g e => by have := (row_lt ho g e).1; omega
  have hfr : ∀ j, j < 2 → ∀ g, (upd vs i v j).ownBlock = some g → (vs j).ownBlock = some g ∨ w.heap.size ≤ g := fun j hj g e => by
    by_cases hji : j = i
    · subst hji
      rw [upd_at] at e
      exact hw g e
    · rw [upd_ne _ _ _ _ hji] at e; exact .inl e
  refine ⟨⟨by rw [set_size]; exact Nat.lt_of_lt_of_le h.lt hg.size, fun j => by rw [World.frozen?_setCell]; exact (World.frozen?_of_block hD).trans (h.fz j), fun j hj => ?_, fun j hj => (cell_off (by omega)).trans ((World.cell?_of_block hD).trans (h.last j hj)), (cell_off (by omega)).trans ((World.cell?_of_block hD).trans h.tr), (cell_off (by omega)).trans ((World.cell?_of_block hD).trans h.wk), fun j hj => ?_, fun j hj => ?_, fun j k hj hk hjk g e1 e2 => ?_, h.trb⟩,
    ⟨?_, fun g hgl hn2 hv2 => (set_other hn2).trans (hg.block g hgl (fun e => hv2 i hi e.symm)), hfr⟩⟩
  · by_cases hji : j = i
    · subst hji
      rw [upd_at]
      exact World.cell?_setCell_same _ _ _ ((World.cell?_of_block hD).trans (h.bytes j hj))
    · rw [upd_ne _ _ _ _ hji]
      exact (cell_off (by omega)).trans ((World.cell?_of_block hD).trans (h.bytes j hj))
  · by_cases hji : j = i
    · subst hji
      show World.ownsRow _ _ _ _ (upd vs j v j) (upd d.b j b j).length (u8C (upd d.b j b j))
      rw [upd_at, upd_at]
      exact ownsRow_keep ho (fun g e => set_other (hvD g e))
    · show World.ownsRow _ _ _ _ (upd vs i v j) (upd d.b i b j).length (u8C (upd d.b i b j))
      rw [upd_ne _ _ _ _ hji, upd_ne _ _ _ _ hji]
      exact ownsRow_keep (h.own j hj) (fun g e => (set_other (own_ne h hj e).1).trans (hv j hj hji g e))
  · by_cases hji : j = i
    · subst hji
      show (upd d.b j b j).length ≤ 1500
      rw [upd_at]
      exact hl
    · show (upd d.b i b j).length ≤ 1500
      rw [upd_ne _ _ _ _ hji]
      exact h.len j hj
  · by_cases hji : j = i
    · subst hji
      rw [upd_at] at e1
      rw [upd_ne _ _ _ _ (Ne.symm hjk)] at e2
      rcases hw g e1 with q | q
      · exact h.sep j k hj hk hjk g q e2
      · have := (own_ne h hk e2).2; omega
    · rw [upd_ne _ _ _ _ hji] at e1
      by_cases hki : k = i
      · subst hki
        rw [upd_at] at e2
        rcases hw g e2 with q | q
        · exact h.sep j k hj hk hjk g e1 q
        · have := (own_ne h hj e1).2; omega
      · rw [upd_ne _ _ _ _ hki] at e2
        exact h.sep j k hj hk hjk g e1 e2
  · refine (((Below.refl D w).grown hg (Nat.le_of_lt h.lt) (fun q hq => by have := (own_ne h hi hq).1; have := (row_lt (h.own i hi) q hq).1; omega))).setCell (p := ⟨D, i * 2, none⟩) (Nat.le_refl _) _
/-- How many bytes last. -/
theorem DvAt.setN {D : Nat} {d : DvN} {vs : Nat → Value} {w : World} (h : DvAt D d vs w) {i : Nat} (hi : i < 2) (n : Nat) : DvAt D { d with n := upd d.n i n } vs (w.setCell ⟨D, i * 2 + 1, none⟩ (.int .i64 (n : Int))) ∧ DFr D vs vs w (w.setCell ⟨D, i * 2 + 1, none⟩ (.int .i64 (n : Int))) := by
  refine ⟨⟨by rw [set_size]; exact h.lt, fun j => by rw [World.frozen?_setCell]; exact h.fz j, fun j hj => (cell_off (by omega)).trans (h.bytes j hj), fun j hj => ?_, (cell_off (by omega)).trans h.tr, (cell_off (by omega)).trans h.wk, fun j hj => ownsRow_keep (h.own j hj) (fun g hg => set_other (own_ne h hj hg).1), h.len, h.sep, h.trb⟩, ⟨(Below.refl _ _).setCell (p := ⟨D, i * 2 + 1, none⟩) (Nat.le_refl _) _, fun g _ hn _ => set_other hn, fun _ _ _ hg => .inl hg⟩⟩
  · by_cases hji : j = i
    · subst hji
      show _ = some (Value.int .i64 ((upd d.n j n j : Nat) : Int))
      rw [upd_at]
      exact World.cell?_setCell_same _ _ _ (h.last j hj)
    · show _ = some (Value.int .i64 ((upd d.n i n j : Nat) : Int))
      rw [upd_ne _ _ _ _ hji]
      exact (cell_off (by omega)).trans (h.last j hj)
end Go.Proofs.YtmmflekajbeamaaGreatDoor
