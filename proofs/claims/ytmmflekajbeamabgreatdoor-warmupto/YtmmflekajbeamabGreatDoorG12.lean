/-
  Frames: the first frame of a text (strings.HasPrefix, frame.first).
  Frames: an area in memory; frames that open and end one (takeOpen, takeWhole).
  Frames: a copy of a text (strings.Clone), by the kit's own law of it; a block's words as a text again.
  Frames: the sum of a text with one byte another; a frame that was told is read back, a spoilt one is not.
  perform: an instruction done on a machine that runs, an OP a theorem (halt, set, jump, turn).
-/
import Derived.Test.YtmmflekajbeamabGreatDoorG11
import Derived.Test.YtmmflekajbeamabGreatDoorG06
import Derived.Test.YtmmflekajbeamabGreatDoorG05
import Derived.Test.YtmmflekajbeamabGreatDoorG10
import Derived.Shelf.Pu.Clone
import Derived.Test.YtmmflekajbeamabGreatDoorG03
namespace Go.Proofs.YtmmflekajbeamabGreatDoor
open Go.RowKit

def preS (s t : ByteArray) : Bool := decide (t.size ≤ s.size) && ((s.extract 0 t.size).toList == t.toList)
theorem preS_true {s t : ByteArray} : preS s t = true ↔ t.size ≤ s.size ∧ s.extract 0 t.size = t := by
  unfold preS
  rw [Bool.and_eq_true, decide_eq_true_eq, beq_iff_eq, ByteArray.toList_eq, ByteArray.toList_eq]
  exact ⟨fun h => ⟨h.1, lst_inj.1 h.2⟩, fun h => ⟨h.1, by rw [h.2]⟩⟩
set_option maxRecDepth 100000 in
set_option maxHeartbeats 1000000 in
theorem hasPre_any (s t : ByteArray) (w : World) :
    Calls Tryz.prog 219 #[.string s, .string t] w fun e' w' => e' = .returned (.bool (preS s t)) ∧ w' = w := by
  by_cases h : t.size ≤ s.size
  · have HP : Hid (((s.extract 0 t.size).toList == t.toList) = preS s t) := by unfold Hid preS; rw [decide_eq_true h, Bool.true_and]
    go_enter Tryz.func219, Tryz.ntmps219
    go_wp2
    go_ret
    exact ⟨ret_bool HP.out, rfl⟩
  · have HP : Hid (false = preS s t) := by unfold Hid preS; rw [decide_eq_false h, Bool.false_and]
    go_enter Tryz.func219, Tryz.ntmps219
    go_wp2
    go_ret
    exact ⟨ret_bool HP.out, rfl⟩
theorem ext_pay (s : ByteArray) (n : Nat) (h : 4 + n ≤ s.size) : (s.extract 4 s.size).extract 0 n = s.extract 4 (4 + n) := by
  rw [← lst_inj, lst_ext, lst_ext, lst_ext, List.drop_zero, Nat.sub_zero, List.take_take, Nat.min_eq_left (by omega), show 4 + n - 4 = n by omega]
/-- What the program's first frame is. -/
def frV (k : Int) (p : ByteArray) (n : Int) : Array Value := #[.int .i64 k, .string p, .int .i64 n]
def FstF (s : ByteArray) (e' : Ending) : Prop :=
  (frst (lst s) = none ∧ e' = .returned (.tuple #[.agg (frV 0 (bya []) 0), .bool false])) ∨ ∃ (K : Nat) (q : List UInt8), frst (lst s) = some (K, q) ∧ e' = .returned (.tuple #[.agg (frV K (bya q) ((q.length + 8 : Nat) : Int)), .bool true])
theorem frV_one (k : Int) (p : ByteArray) (n : Int) : (frV k p n).all (·.oneCell') = true := by simp [frV, Value.oneCell']
theorem wpList_storeF {ops : Array Oper} {rest : List Oper} {o : Oper} {a : Act} {w : World} {Q : Exit → Act → World → Prop} (hgd : o.guard = none) (x y : Operand) (ho : o.op = .store 240 x y)
    (g : Nat) (k : Int) (p : ByteArray) (n : Int) (hx : a.eval x = .pointer (some ⟨g, 0, none⟩)) (hy : a.eval y = .agg (frV k p n)) (old : Array Value) (hg : w.heap[g]? = some (.cells old 240 (0, 0))) (hold : old.size = 3)
    (h : wpList Tryz.prog ops Q rest (a.put o.dst undef) (w.setRow g (frV k p n))) : wpList Tryz.prog ops Q (o :: rest) a w :=
  wpList_store_row hgd 240 x y ho g (frV k p n) hx hy 240 old hg (show (Tryz.prog.info? 240).map (·.size) = some 3 by kernel_rfl) hold (frV_one k p n) h
theorem size149 : (Tryz.prog.info? 240).map (·.size) = some 3 := by kernel_rfl
theorem build149 (w : World) : (Instr.build 240 #[]).run Tryz.prog w = .ok (.agg (frV 0 (bya []) 0)) w := by kernel_rfl
theorem zero149 (w : World) : (zeroValue 240).run Tryz.prog w = .ok (.agg (frV 0 (bya []) 0)) w := by kernel_rfl
theorem res_F {fn : Func} {p u : Tmp} (h : fn.results = #[.cell p 240, .tmp u]) (tmps : Array Value) (w : World) (g : Nat) (c : Array Value) (hz : c.size = 3)
    (hp : tmps.getD p undef = .pointer (some ⟨g, 0, none⟩)) (hg : w.heap[g]? = some (.cells c 240 (0, 0))) (x : Value) (hu : tmps.getD u undef = x) :
    (results fn tmps).run Tryz.prog w = .ok (.tuple #[.agg c, x]) w := by
  rw [results_cell_tmp h, hp, hu]
  simp only [asAddr, Sem.run_pure, Result.andThen]
  rw [run_loadVar_row w g 240 240 c (0, 0) _ hg Tryz.underlying240 rfl (by rw [size149, hz])]

set_option maxRecDepth 100000 in
set_option maxHeartbeats 4000000 in
theorem frFirst_any (s : ByteArray) (w : World) (hs : s.size ≤ 4611686018427387904) :
    Calls Tryz.prog 182 #[.string s] w fun e' w' => Below w.heap.size w w' ∧ FstF s e' := by
  have bz := build149
  have zz := zero149
  have HW0 : Hid ((w.alloc (.cells (frV 0 (bya []) 0) 240)).heap[w.heap.size]? = some (.cells (frV 0 (bya []) 0) 240 (0, 0))) := _root_.Go.heap_alloc_new w _
  have HB0 := hide ((Below.refl w.heap.size w).alloc (Nat.le_refl _) (.cells (frV 0 (bya []) 0) 240))
  by_cases h4 : s.size < 4
  · have HN := hide (frst_short s (.inl (by omega)))
    have h4' : (s.size : Int) < 4 := by omega
    go_enter Tryz.func182, Tryz.ntmps182
    go_wp2_with (refine wpList_storeF rfl _ _ rfl w.heap.size 0 (bya []) 0 rfl rfl _ HW0.out rfl ?_)
    exact bodyPost_ret (v := .tuple #[.agg (frV 0 (bya []) 0), .bool false]) (res_F Tryz.results182 _ _ w.heap.size _ rfl rfl (setRow_heap _ _ _ _ _ (0, 0) HW0.out) _ rfl) rfl ⟨below_setRow HB0.out (Nat.le_refl _) _, .inl ⟨HN.out, rfl⟩⟩
  have h4' : ¬ (s.size : Int) < 4 := by omega
  have hg1 := bt_get s 1 (by omega)
  have hbl := bt_lt s 1
  have HRd := hide (fun w' => numRead_any (s.extract 2 4) w' (by rw [ByteArray.size_extract]; omega))
  rw [show (s.extract 2 4).size = 2 by rw [ByteArray.size_extract]; omega, show s.extract 2 4 = s.extract 2 (2 + 2) from rfl, extr_beN s 2 2 0 (by omega) 2 (by omega)] at HRd
  have ez : (s.extract 4 s.size).size = s.size - 4 := by rw [ByteArray.size_extract]; omega
  have hb : beN s 2 2 < 65536 := beN_lt s 2 2
  have hNm : (s.extract 4 s.size).size < beN s 2 2 → frst (lst s) = none := fun h => frst_short s (by omega)
  have e0 : (beN s 2 2 : Int) ≤ (s.size : Int) - 4 ∨ (s.size : Int) - 4 < (beN s 2 2 : Int) := by omega
  by_cases hgt : s.size - 4 < beN s 2 2
  · have HN := hide (frst_short s (by omega))
    have hgt' : (((s.extract 4 s.size).size : Nat) : Int) < (beN s 2 2 : Int) := by omega
    clear hNm e0
    generalize beN s 2 2 = n at *
    generalize bt s 1 = K at *
    go_enter Tryz.func182, Tryz.ntmps182
    go_upto_region 3 with fail
    go_quiet (fail)
    have HB1 := hide (below_drewN HB0.out nq)
    have HW1 : Hid (((w.alloc (.cells (frV 0 (bya []) 0) 240)).drewN nq).heap[w.heap.size]? = some (.cells (frV 0 (bya []) 0) 240 (0, 0))) := HW0.out
    generalize (w.alloc (.cells (frV 0 (bya []) 0) 240)).drewN nq = w1 at *
    go_wp2_with fail
    refine (unhide HRd _).mono ?_
    rintro e w' ⟨rfl, hw⟩
    obtain rfl := hw.symm
    go_wp2_with (refine wpList_storeF rfl _ _ rfl w.heap.size 0 (bya []) 0 rfl rfl _ HW1.out rfl ?_)
    exact bodyPost_ret (v := .tuple #[.agg (frV 0 (bya []) 0), .bool false]) (res_F Tryz.results182 _ _ w.heap.size _ rfl rfl (setRow_heap _ _ _ _ _ (0, 0) HW1.out) _ rfl) rfl ⟨below_setRow HB1.out (Nat.le_refl _) _, .inl ⟨HN.out, rfl⟩⟩
  have hle' : ¬ (((s.extract 4 s.size).size : Nat) : Int) < (beN s 2 2 : Int) := by omega
  have hle2 : (beN s 2 2 : Int) ≤ (((s.extract 4 s.size).size : Nat) : Int) := by omega
  have hpay := ext_pay s (beN s 2 2) (by omega)
  have HSl := hide (fun w' => frSeal_any (bt s 1 : Nat) (s.extract 4 (4 + beN s 2 2)) w')
  have HPy := hide hpay
  have hpz : (s.extract 4 (4 + beN s 2 2)).size = beN s 2 2 := by rw [ByteArray.size_extract]; omega
  -- the frame, if there is one
  have HY : Hid (sealOK (bt s 1 : Nat) (s.extract 4 (4 + beN s 2 2)) → preS s (bya (frT (bt s 1) (lst (s.extract 4 (4 + beN s 2 2))))) = true → frst (lst s) = some (bt s 1, lst (s.extract 4 (4 + beN s 2 2)))) := fun hok hp => by
    obtain ⟨h1, h2⟩ := preS_true.1 hp
    have hz : (bya (frT (bt s 1) (lst (s.extract 4 (4 + beN s 2 2))))).size = beN s 2 2 + 8 := by rw [bya_size, frT_len, lst_len, hpz]
    rw [hz] at h1 h2
    refine (frst_eq s (by omega) (by omega)).1 ⟨hok, ?_⟩
    rw [Nat.add_comm 8 (beN s 2 2)]
    exact h2
  have HNo : Hid ((¬ sealOK (bt s 1 : Nat) (s.extract 4 (4 + beN s 2 2)) ∨ preS s (bya (frT (bt s 1) (lst (s.extract 4 (4 + beN s 2 2))))) = false) → frst (lst s) = none) := fun h => by
    by_cases h8 : beN s 2 2 + 8 ≤ s.size
    · refine (frst_eq s (by omega) h8).2 (fun hh => ?_)
      rcases h with h | h
      · exact h hh.1
      · have hz : (bya (frT (bt s 1) (lst (s.extract 4 (4 + beN s 2 2))))).size = beN s 2 2 + 8 := by rw [bya_size, frT_len, lst_len, hpz]
        have : preS s (bya (frT (bt s 1) (lst (s.extract 4 (4 + beN s 2 2))))) = true := preS_true.2 ⟨by rw [hz]; exact h8, by rw [hz, Nat.add_comm (beN s 2 2) 8]; exact hh.2⟩
        rw [this] at h
        cases h
    · exact frst_short s (.inr (by omega))
  have HPz := hide hpz
  have HPr := hide (fun t w' => hasPre_any s t w')
  clear hNm e0 hpay hpz
  generalize beN s 2 2 = n at *
  generalize bt s 1 = K at *
  go_enter Tryz.func182, Tryz.ntmps182
  go_upto_region 3 with fail
  go_quiet (fail)
  have HB1 := hide (below_drewN HB0.out nq)
  have HW1 : Hid (((w.alloc (.cells (frV 0 (bya []) 0) 240)).drewN nq).heap[w.heap.size]? = some (.cells (frV 0 (bya []) 0) 240 (0, 0))) := HW0.out
  generalize (w.alloc (.cells (frV 0 (bya []) 0) 240)).drewN nq = w1 at *
  go_wp2_with fail
  refine (unhide HRd _).mono ?_
  rintro e w' ⟨rfl, hw⟩
  obtain rfl := hw.symm
  go_wp2_with fail
  rw [HPy.out]
  refine (unhide HSl _).mono ?_
  rintro e w2 ⟨hb2, ⟨hok, rfl⟩ | ⟨hno, rfl⟩⟩
  · have HB2 : Hid (Below w.heap.size w w2) := HB1.out.trans (hb2.mono (by have := HB1.out.size; omega))
    have HW2 : Hid (w2.heap[w.heap.size]? = some (.cells (frV 0 (bya []) 0) 240 (0, 0))) := (hb2.block _ (Array.getElem?_eq_some_iff.1 HW1.out).1).trans HW1.out
    have HOk := hide hok
    rw [Int.toNat_natCast]
    have HDs : Hid ((bya (frT K (lst (s.extract 4 (4 + n))))).size = (lst (s.extract 4 (4 + n))).length + 8) := by unfold Hid; rw [bya_size, frT_len]
    have HP := hide (HPr.out (bya (frT K (lst (s.extract 4 (4 + n))))))
    have HPb : Hid (bya (lst (s.extract 4 (4 + n))) = s.extract 4 (4 + n)) := bya_lst _
    cases hp : preS s (bya (frT K (lst (s.extract 4 (4 + n)))))
    · rw [hp] at HP
      have HN := hide (HNo.out (.inr hp))
      clear hp hb2 hok HSl HY HNo
      generalize bya (frT K (lst (s.extract 4 (4 + n)))) = D at *
      go_wp2_with fail
      refine (unhide HP _).mono ?_
      rintro e w' ⟨rfl, hw⟩
      obtain rfl := hw.symm
      go_wp2_with (refine wpList_storeF rfl _ _ rfl w.heap.size 0 (bya []) 0 rfl rfl _ HW2.out rfl ?_)
      exact bodyPost_ret (v := .tuple #[.agg (frV 0 (bya []) 0), .bool false]) (res_F Tryz.results182 _ _ w.heap.size _ rfl rfl (setRow_heap _ _ _ _ _ (0, 0) HW2.out) _ rfl) rfl ⟨below_setRow HB2.out (Nat.le_refl _) _, .inl ⟨HN.out, rfl⟩⟩
    · rw [hp] at HP
      have HN := hide (HY.out HOk.out hp)
      clear hp hb2 hok HSl HY HNo
      generalize bya (frT K (lst (s.extract 4 (4 + n)))) = D at *
      go_wp2_with fail
      refine (unhide HP _).mono ?_
      rintro e w' ⟨rfl, hw⟩
      obtain rfl := hw.symm
      go_wp2_with (refine wpList_storeF rfl _ _ rfl w.heap.size K (s.extract 4 (4 + n)) (D.size : Int) rfl rfl _ HW2.out rfl ?_)
      refine bodyPost_ret (v := .tuple #[.agg (frV K (s.extract 4 (4 + n)) (D.size : Int)), .bool true]) (res_F Tryz.results182 _ _ w.heap.size _ rfl rfl (setRow_heap _ _ _ _ _ (0, 0) HW2.out) _ rfl) rfl ⟨below_setRow HB2.out (Nat.le_refl _) _, .inr ⟨_, _, HN.out, ?_⟩⟩
      rw [HPb.out, HDs.out]
  · have HB2 : Hid (Below w.heap.size w w2) := HB1.out.trans (hb2.mono (by have := HB1.out.size; omega))
    have HW2 : Hid (w2.heap[w.heap.size]? = some (.cells (frV 0 (bya []) 0) 240 (0, 0))) := (hb2.block _ (Array.getElem?_eq_some_iff.1 HW1.out).1).trans HW1.out
    have HN := hide (HNo.out (.inl hno))
    clear hb2 hno HSl HY HNo
    go_wp2_with (refine wpList_storeF rfl _ _ rfl w.heap.size 0 (bya []) 0 rfl rfl _ HW2.out rfl ?_)
    exact bodyPost_ret (v := .tuple #[.agg (frV 0 (bya []) 0), .bool false]) (res_F Tryz.results182 _ _ w.heap.size _ rfl rfl (setRow_heap _ _ _ _ _ (0, 0) HW2.out) _ rfl) rfl ⟨below_setRow HB2.out (Nat.le_refl _) _, .inl ⟨HN.out, rfl⟩⟩
end Go.Proofs.YtmmflekajbeamabGreatDoor

namespace Go.Proofs.YtmmflekajbeamabGreatDoor
open Go.RowKit

def knCs (l : List (List UInt8 × List UInt8)) : List Value := l.flatMap fun x => [.string (bya x.1), .string (bya x.2)]
theorem knCs_snoc (l : List (List UInt8 × List UInt8)) (x : List UInt8 × List UInt8) : knCs (l ++ [x]) = knCs l ++ [.string (bya x.1), .string (bya x.2)] := by simp [knCs]
def arV (gen : Nat) (whole : Bool) (good : Nat) (v : Value) : Array Value := #[.int .i64 (gen : Int), .bool whole, .int .i64 (good : Int), v]
/-- An area as it lies in memory. -/
structure ArAt (A : Nat) (a : ArN) (v : Value) (w : World) : Prop where
  cells : w.heap[A]? = some (.cells (arV a.gen a.whole a.good v) 184 (0, 0))
  list : w.ownsRow (A + 1) 71 2 v a.list.length (knCs a.list)
/-- What a call keeps that turns an area. -/
def TkFr (A : Nat) (v : Value) (w w' : World) : Prop := Below A w w' ∧ ∀ g, g < w.heap.size → g ≠ A → v.ownBlock ≠ some g → w'.heap[g]? = w.heap[g]?
theorem ArAt.lt {A : Nat} {a : ArN} {v : Value} {w : World} (h : ArAt A a v w) : A < w.heap.size := (Array.getElem?_eq_some_iff.1 h.cells).1
theorem ArAt.cell {A : Nat} {a : ArN} {v : Value} {w : World} (h : ArAt A a v w) (i : Nat) : w.cell? ⟨A, i, none⟩ = (arV a.gen a.whole a.good v)[i]? := cell_row h.cells i
theorem ArAt.frozen {A : Nat} {a : ArN} {v : Value} {w : World} (h : ArAt A a v w) (i : Nat) : w.frozen? ⟨A, i, none⟩ = false := by simp [World.frozen?, h.cells]
theorem ArAt.own {A : Nat} {a : ArN} {v : Value} {w : World} (h : ArAt A a v w) : v.ownBlock ≠ some A := fun e => by
  have := (row_lt h.list A e).1
  omega
theorem ArAt.above {A : Nat} {a : ArN} {v : Value} {w w' : World} (h : ArAt A a v w) (hb : Below w.heap.size w w') : ArAt A a v w' :=
  ⟨(hb.block _ h.lt).trans h.cells, own_grow h.list hb⟩
theorem TkFr.of_above {A : Nat} {v : Value} {w w' : World} (hA : A < w.heap.size) (hb : Below w.heap.size w w') : TkFr A v w w' :=
  ⟨hb.mono (Nat.le_of_lt hA), fun g hg _ _ => hb.block g hg⟩
/-- A cell of the area that is not its list is turned. -/
theorem ArAt.turn {A : Nat} {a a' : ArN} {v : Value} {w : World} (h : ArAt A a v w) (i : Nat) (x : Value) (hl : a'.list = a.list) (hx : (arV a.gen a.whole a.good v).setIfInBounds i x = arV a'.gen a'.whole a'.good v) : ArAt A a' v (w.setCell ⟨A, i, none⟩ x) := by
  refine ⟨?_, ?_⟩
  · obtain ⟨hlt, hk⟩ := Array.getElem?_eq_some_iff.1 h.cells
    show (w.heap.modify A _)[A]? = _
    rw [Array.getElem?_eq_getElem (by rw [Array.size_modify]; exact hlt), Array.getElem_modify_self, hk, ← hx]
    rfl
  · rw [hl]
    refine ownsRow_keep h.list (fun g hg => heap_set_other _ _ (fun e => ?_))
    subst e
    exact h.own hg
theorem TkFr.turn {A : Nat} {v : Value} {w w' : World} (h : TkFr A v w w') (i : Nat) (x : Value) : TkFr A v w (w'.setCell ⟨A, i, none⟩ x) :=
  ⟨h.1.setCell (p := ⟨A, i, none⟩) (Nat.le_refl _) _, fun g hg hn ho => (heap_set_other _ _ hn).trans (h.2 g hg hn ho)⟩

theorem TkFr.refl (A : Nat) (v : Value) (w : World) : TkFr A v w w := ⟨Below.refl _ _, fun _ _ _ _ => rfl⟩
theorem TkFr.alloc {A : Nat} {v : Value} {w w' : World} (h : TkFr A v w w') (hA : A < w.heap.size) (o : Obj) : TkFr A v w (w'.alloc o) :=
  ⟨h.1.alloc (by have := h.1.size; omega) o, fun g hg hn ho => (Below.heap_alloc w' _ _ (by have := h.1.size; omega)).trans (h.2 g hg hn ho)⟩
theorem ArAt.alloc {A : Nat} {a : ArN} {v : Value} {w : World} (h : ArAt A a v w) (o : Obj) : ArAt A a v (w.alloc o) := h.above ((Below.refl _ _).alloc (Nat.le_refl _) o)
/-- What taking a frame leaves: the area's good bytes are not counted yet. -/
def TkPost (A : Nat) (a : ArN) (v : Value) (r : Option ArN) (w : World) (e' : Ending) (w' : World) : Prop :=
  TkFr A v w w' ∧ ((∃ a' v', r = some a' ∧ e' = .returned (.bool true) ∧ ArAt A ⟨a'.gen, a'.whole, a.good, a'.list⟩ v' w' ∧ (∀ g, v'.ownBlock = some g → v.ownBlock = some g ∨ w.heap.size ≤ g)) ∨ (r = none ∧ e' = .returned (.bool false) ∧ ArAt A a v w'))
def rOpen (a : ArN) (K : Nat) (q : List UInt8) : Option ArN := if K = 1 ∧ q.length = 4 ∧ beN (bya q) 0 4 ≠ 0 then some ⟨beN (bya q) 0 4, a.whole, a.good + (q.length + 8), a.list⟩ else none
def rWhole (a : ArN) (q : List UInt8) : Option ArN := if a.whole = false ∧ q = [] then some ⟨a.gen, true, a.good + (q.length + 8), a.list⟩ else none

set_option maxRecDepth 100000 in
set_option maxHeartbeats 2000000 in
/-- An Open frame at the beginning of an area. -/
theorem takeOpen_any (A : Nat) (a : ArN) (v : Value) (K : Nat) (q : List UInt8) (n : Int) (w : World) (h : ArAt A a v w) (hg : a.gen = 0) :
    Calls Tryz.prog 220 #[.pointer (some ⟨A, 0, none⟩), .agg #[.int .i64 (K : Int), .string (bya q), .int .i64 n]] w (TkPost A a v (rOpen a K q) w) := by
  have HZ : Hid ((bya q).size = q.length) := bya_size q
  have hA := h.lt
  have hne : ¬ A = w.heap.size := by omega
  have g0 : w.cell? ⟨A, 0, none⟩ = some (.int .i64 (a.gen : Int)) := h.cell 0
  have f0 := h.frozen 0
  have HNo : Hid (∀ o, rOpen a K q = none → TkPost A a v (rOpen a K q) w (.returned (.bool false)) (w.alloc o)) := fun o hr => ⟨(TkFr.refl A v w).alloc hA o, .inr ⟨hr, rfl, h.alloc o⟩⟩
  have HZero : Hid (∀ o, rOpen a K q = none → TkPost A a v (rOpen a K q) w (.returned (.bool false)) ((w.setCell ⟨A, 0, none⟩ (.int .i64 0)).alloc o)) := fun o hr => by
    refine ⟨((TkFr.refl A v w).turn 0 _).alloc hA o, .inr ⟨hr, rfl, ?_⟩⟩
    refine (h.turn (a' := a) 0 (.int .i64 0) rfl ?_).alloc o
    rw [hg]
    rfl
  have HYes : Hid (∀ o, (K = 1 ∧ q.length = 4 ∧ beN (bya q) 0 4 ≠ 0) → TkPost A a v (rOpen a K q) w (.returned (.bool true)) ((w.setCell ⟨A, 0, none⟩ (.int .i64 (beN (bya q) 0 4 : Int))).alloc o)) := fun o hr =>
    ⟨((TkFr.refl A v w).turn 0 _).alloc hA o, .inl ⟨_, v, if_pos hr, rfl, (h.turn (a' := ⟨beN (bya q) 0 4, a.whole, a.good, a.list⟩) 0 _ rfl rfl).alloc o, fun g hg => .inl hg⟩⟩
  have HR : Hid (¬ (K = 1 ∧ q.length = 4 ∧ beN (bya q) 0 4 ≠ 0) → rOpen a K q = none) := fun hc => if_neg hc
  clear h
  generalize rOpen a K q = R at *
  generalize bya q = D at *
  by_cases hc : K = 1 ∧ q.length = 4
  · obtain ⟨rfl, hl⟩ := hc
    have hz' : (D.size : Int) = 4 := by have := HZ.out; omega
    have HRd := hide (fun w' => numRead_any D w' (by omega))
    rw [show D.size = 4 by omega] at HRd
    have HL := hide hl
    clear hl
    have hbl : beN D 0 4 < 4294967296 := beN_lt D 0 4
    generalize beN D 0 4 = X at *
    by_cases hx0 : X = 0
    · subst hx0
      have HN := hide (HR.out (fun hh => hh.2.2 rfl))
      go_enter Tryz.func220, Tryz.ntmps220
      go_wp2_with fail
      refine (unhide HRd _).mono ?_
      rintro e w' ⟨rfl, hw⟩
      obtain rfl := hw.symm
      go_wp2_with fail
      go_ret
      exact HZero.out _ HN.out
    · have hx1 : (0 : Int) < (X : Int) := by omega
      have hx2 : decide (0 < X) = true := by rw [decide_eq_true_eq]; omega
      have HY := hide (fun o => HYes.out o ⟨rfl, HL.out, hx0⟩)
      go_enter Tryz.func220, Tryz.ntmps220
      go_wp2_with fail
      refine (unhide HRd _).mono ?_
      rintro e w' ⟨rfl, hw⟩
      obtain rfl := hw.symm
      go_wp2_with fail
      go_ret
      exact HY.out _
  · have HN := hide (HR.out (fun hh => hc ⟨hh.1, hh.2.1⟩))
    by_cases hk : K = 1
    · subst hk
      have hz' : ((D.size : Int) == 4) = false := by have := HZ.out; rw [beq_eq_false_iff_ne]; intro e; exact hc ⟨rfl, by omega⟩
      clear hc
      go_enter Tryz.func220, Tryz.ntmps220
      go_wp2_with fail
      go_ret
      exact HNo.out _ HN.out
    · have hk' : ((K : Int) == 1) = false := by rw [beq_eq_false_iff_ne]; omega
      clear hc
      go_enter Tryz.func220, Tryz.ntmps220
      go_wp2_with fail
      go_ret
      exact HNo.out _ HN.out

theorem bya_ne {q : List UInt8} (h : q ≠ []) : ((bya q).toList == ([] : List UInt8)) = false := by
  rw [beq_eq_false_iff_ne, ByteArray.toList_eq]
  intro e
  apply h
  rw [← bya_list q]
  exact e
set_option maxRecDepth 100000 in
set_option maxHeartbeats 2000000 in
/-- A Whole frame. -/
theorem takeWhole_any (A : Nat) (a : ArN) (v : Value) (K : Nat) (q : List UInt8) (n : Int) (w : World) (h : ArAt A a v w) :
    Calls Tryz.prog 222 #[.pointer (some ⟨A, 0, none⟩), .agg #[.int .i64 (K : Int), .string (bya q), .int .i64 n]] w (TkPost A a v (rWhole a q) w) := by
  have hA := h.lt
  have hne : ¬ A = w.heap.size := by omega
  have g1 : w.cell? ⟨A, 1, none⟩ = some (.bool a.whole) := h.cell 1
  have f1 := h.frozen 1
  have HNo : Hid (∀ o, rWhole a q = none → TkPost A a v (rWhole a q) w (.returned (.bool false)) (w.alloc o)) := fun o hr => ⟨(TkFr.refl A v w).alloc hA o, .inr ⟨hr, rfl, h.alloc o⟩⟩
  have HYes : Hid (∀ o, (a.whole = false ∧ q = []) → TkPost A a v (rWhole a q) w (.returned (.bool true)) ((w.setCell ⟨A, 1, none⟩ (.bool true)).alloc o)) := fun o hr =>
    ⟨((TkFr.refl A v w).turn 1 _).alloc hA o, .inl ⟨_, v, if_pos hr, rfl, (h.turn (a' := ⟨a.gen, true, a.good, a.list⟩) 1 _ rfl rfl).alloc o, fun g hg => .inl hg⟩⟩
  have HR : Hid (¬ (a.whole = false ∧ q = []) → rWhole a q = none) := fun hc => if_neg hc
  clear h
  generalize rWhole a q = R at *
  cases hwh : a.whole
  · rw [hwh] at g1
    by_cases hq : q = []
    · have HY := hide (fun o => HYes.out o ⟨hwh, hq⟩)
      subst hq
      have hqb : ((bya []).toList == ([] : List UInt8)) = true := by rw [ByteArray.toList_eq, bya_list]; rfl
      go_enter Tryz.func222, Tryz.ntmps222
      go_wp2_with fail
      go_ret
      exact HY.out _
    · have hqb := bya_ne hq
      have HN := hide (HR.out (fun hh => hq hh.2))
      clear hq
      go_enter Tryz.func222, Tryz.ntmps222
      go_wp2_with fail
      go_ret
      exact HNo.out _ HN.out
  · rw [hwh] at g1
    have HN := hide (HR.out (fun hh => by rw [hwh] at hh; cases hh.1))
    go_enter Tryz.func222, Tryz.ntmps222
    go_wp2_with fail
    go_ret
    exact HNo.out _ HN.out
end Go.Proofs.YtmmflekajbeamabGreatDoor

namespace Go.Proofs.YtmmflekajbeamabGreatDoor
open Go.RowKit Go.Shelf

def renC : Ren := ⟨fun _ => 254, fun t => if t = 0 then 0 else if t = 3 then 3 else if t = 4 then 4 else if t = 5 then 5 else if t = 9 then 9 else if t = 37 then 121 else 203, fun x => x⟩
set_option maxRecDepth 100000 in
theorem laysC : LaysPu.n25 Tryz.prog renC := by
  constructor <;> first | kernel_rfl | (intro w; kernel_rfl)
set_option maxRecDepth 100000 in
theorem clone_any (s : ByteArray) (w : World) (hs : s.size ≤ 2000000) :
    Calls Tryz.prog 243 #[.string s] w fun e' w' => e' = .returned (.string s) ∧ Below w.heap.size w w' := by
  have HC := hide (AnyPu.stringslite_Clone laysC s w (by omega))
  go_enter Tryz.func243, Tryz.ntmps243
  go_wp2_with fail
  refine (unhide HC).mono ?_
  rintro e w1 ⟨rfl, hb⟩
  have HB := hide hb
  clear hb
  go_wp2_with fail
  go_ret
  exact ⟨rfl, HB.out⟩
theorem numB_be (s : ByteArray) (i : Nat) : numB 4 (beN s i 4) = [s.get! i, s.get! (i + 1), s.get! (i + 2), s.get! (i + 3)] := by
  have h0 := (s.get! i).toNat_lt; have h1 := (s.get! (i + 1)).toNat_lt; have h2 := (s.get! (i + 2)).toNat_lt; have h3 := (s.get! (i + 3)).toNat_lt
  simp only [numB, beN, Nat.reducePow, Nat.div_one, Nat.add_zero]
  have e : ∀ (b : UInt8) (n : Nat), n = b.toNat → UInt8.ofNat n = b := fun b n h => by rw [h]; simp
  rw [e (s.get! i) _ (by omega), e (s.get! (i + 1)) _ (by omega), e (s.get! (i + 2)) _ (by omega), e (s.get! (i + 3)) _ (by omega)]
theorem wds_take (s : ByteArray) : ∀ k, 4 * k ≤ s.size → wdsT (blkL s k) = (lst s).take (4 * k) := by
  intro k
  induction k with
  | zero => intro _; simp [blkL, wdsT]
  | succ k ih =>
    intro hk
    rw [blkL_succ, wdsT_snoc, ih (by omega)]
    unfold wdAt
    rw [numB_be, show 4 * (k + 1) = 4 * k + 1 + 1 + 1 + 1 by omega, take_bt (by omega), take_bt (by omega), take_bt (by omega), take_bt (by omega)]
    simp
theorem wds_lst {s : ByteArray} (h : s.size % 4 = 0) : wdsT (blkL s (s.size / 4)) = lst s := by
  rw [wds_take s _ (by omega), List.take_of_length_le (by rw [lst_len]; omega)]
end Go.Proofs.YtmmflekajbeamabGreatDoor

namespace Go.Proofs.YtmmflekajbeamabGreatDoor

theorem frT_form (k : Nat) (p r : List UInt8) : frT k p ++ r = 99 :: UInt8.ofNat (k / 256 ^ 0 % 256) :: UInt8.ofNat (p.length / 256 ^ 1 % 256) :: UInt8.ofNat (p.length / 256 ^ 0 % 256) :: (p ++ (numB 4 (crc (frH k p)) ++ r)) := by
  unfold frT
  generalize numB 4 (crc (frH k p)) = S
  unfold frH
  simp [numB]
theorem frN_told (k : Nat) (p r : List UInt8) (hp : p.length ≤ 200) : frN (frT k p ++ r) = p.length := by
  rw [frT_form]
  simp only [frN, List.getD_cons_succ, List.getD_cons_zero]
  rw [UInt8.toNat_ofNat', UInt8.toNat_ofNat']
  omega
theorem kind_told (k : Nat) (p r : List UInt8) (hk : k ≤ 3) : ((frT k p ++ r).getD 1 0).toNat = k := by
  rw [frT_form]
  simp only [List.getD_cons_succ, List.getD_cons_zero]
  rw [UInt8.toNat_ofNat']
  omega
theorem pay_told (k : Nat) (p r : List UInt8) : ((frT k p ++ r).drop 4).take p.length = p := by
  rw [frT_form]
  simp
theorem frst_told (k : Nat) (p r : List UInt8) (h1 : 1 ≤ k) (hk : k ≤ 3) (hp : p.length ≤ 200) : frst (frT k p ++ r) = some (k, p) := by
  unfold frst
  rw [frN_told k p r hp, kind_told k p r hk, pay_told]
  rw [if_neg (by rw [List.length_append, frT_len]; omega), if_neg (by rw [List.length_append, frT_len]; omega), if_pos]
  refine ⟨h1, hk, hp, ?_⟩
  rw [← frT_len k p, List.take_left']
  rfl

end Go.Proofs.YtmmflekajbeamabGreatDoor

namespace Go.Proofs.YtmmflekajbeamabGreatDoor
open Go.RowKit

set_option maxRecDepth 100000 in
set_option maxHeartbeats 2000000 in
theorem perform_halt (z : List Int) (a b c k : Nat) (w : World) (hl : z.length = 138)  (p0 : 0 ≤ gz z 136) (p1 : gz z 136 < 128) :
    Calls Tryz.prog 144 #[.agg (S z), .agg #[.int .i64 0, .int .i64 a, .int .i64 b, .int .i64 c, .int .i64 k]] w fun e' w' => e' = .returned (.agg (S (nxt z 0 a b c k))) ∧ Below w.heap.size w w' := by
  have hx : ∀ i, i < 138 → (S z)[i]? = some (.int .i64 (gz z i)) := fun i hi => S_get z i (by omega)
  have h136 := hx 136 (by omega)
  have hset := S_set
  have zz := zero34
  have h137 := hx 137 (by omega)
  have g136 : (S (z.set 137 1))[136]? = some (.int .i64 (gz z 136)) := by rw [S_get _ _ (by simp [hl])]; simp [gz]
  have HN : Hid (Ending.returned (.agg (S ((z.set 137 1).set 136 (gz z 136)))) = .returned (.agg (S (nxt z 0 a b c k)))) := by rw [Hid, nxt, if_pos rfl, set_same z hl]
  clear hx
  go_enter Tryz.func144, Tryz.ntmps144
  go_wp2_with (first | (refine wpList_load_S rfl _ rfl _ rfl (isRowB3 _ _ _ _ _ _ (by simp [S_size, hl])) _ (rowD3 _ _ _ _ _) ?_) | (refine wpList_store_S rfl _ _ rfl _ rfl _ rfl (by simp [hl]) (isRowB3' _ _ _ _ _ _ (by simp [S_size, zeroZ])) _ (setRow3 _ _ _ _ _ _) ?_))
  exact bodyPost_ret (v := .agg (S ((z.set 137 1).set 136 (gz z 136)))) (results_cell_row Tryz.results144 _ _ _ 25 (S ((z.set 137 1).set 136 (gz z 136))) (0, 0) _ rfl (heap3 _ _ _ _) Tryz.underlying25 rfl (by rw [size34, S_size]; simp [hl])) rfl ⟨HN.out, below3 _ _ _ _⟩

set_option maxRecDepth 100000 in
set_option maxHeartbeats 2000000 in
theorem perform_set (z : List Int) (a b c k : Nat) (w : World) (hl : z.length = 138) (ha : a < 8) (p0 : 0 ≤ gz z 136) (p1 : gz z 136 < 128) :
    Calls Tryz.prog 144 #[.agg (S z), .agg #[.int .i64 1, .int .i64 a, .int .i64 b, .int .i64 c, .int .i64 k]] w fun e' w' => e' = .returned (.agg (S (nxt z 1 a b c k))) ∧ Below w.heap.size w w' := by
  have hx : ∀ i, i < 138 → (S z)[i]? = some (.int .i64 (gz z i)) := fun i hi => S_get z i (by omega)
  have h136 := hx 136 (by omega)
  have hset := S_set
  have zz := zero34
  have haa := hx a (by omega)
  have g136 : (S (z.set a (k : Int)))[136]? = some (.int .i64 (gz (z.set a (k : Int)) 136)) := S_get _ _ (by simp [hl])
  have ha' : (a : Int) < 8 := by omega
  have HN : Hid (Ending.returned (.agg (S ((z.set a (k : Int)).set 136 ((gz z 136 + 1) % 128)))) = .returned (.agg (S (nxt z 1 a b c k)))) := by simp [Hid, nxt]
  clear hx
  go_enter Tryz.func144, Tryz.ntmps144
  go_wp2_with (first | (refine wpList_load_S rfl _ rfl _ rfl (isRowB3 _ _ _ _ _ _ (by simp [S_size, hl])) _ (rowD3 _ _ _ _ _) ?_) | (refine wpList_store_S rfl _ _ rfl _ rfl _ rfl (by simp [hl]) (isRowB3' _ _ _ _ _ _ (by simp [S_size, zeroZ])) _ (setRow3 _ _ _ _ _ _) ?_))
  exact bodyPost_ret (v := .agg (S ((z.set a (k : Int)).set 136 ((gz z 136 + 1) % 128)))) (results_cell_row Tryz.results144 _ _ _ 25 (S ((z.set a (k : Int)).set 136 ((gz z 136 + 1) % 128))) (0, 0) _ rfl (heap3 _ _ _ _) Tryz.underlying25 rfl (by rw [size34, S_size]; simp [hl])) rfl ⟨HN.out, below3 _ _ _ _⟩

set_option maxRecDepth 100000 in
set_option maxHeartbeats 2000000 in
theorem perform_jump (z : List Int) (a b c k : Nat) (w : World) (hl : z.length = 138)  (p0 : 0 ≤ gz z 136) (p1 : gz z 136 < 128) :
    Calls Tryz.prog 144 #[.agg (S z), .agg #[.int .i64 9, .int .i64 a, .int .i64 b, .int .i64 c, .int .i64 k]] w fun e' w' => e' = .returned (.agg (S (nxt z 9 a b c k))) ∧ Below w.heap.size w w' := by
  have hx : ∀ i, i < 138 → (S z)[i]? = some (.int .i64 (gz z i)) := fun i hi => S_get z i (by omega)
  have h136 := hx 136 (by omega)
  have hset := S_set
  have zz := zero34
  have HN : Hid (Ending.returned (.agg (S (z.set 136 ((k : Int) % 128)))) = .returned (.agg (S (nxt z 9 a b c k)))) := by simp [Hid, nxt]
  clear hx
  go_enter Tryz.func144, Tryz.ntmps144
  go_wp2_with (first | (refine wpList_load_S rfl _ rfl _ rfl (isRowB3 _ _ _ _ _ _ (by simp [S_size, hl])) _ (rowD3 _ _ _ _ _) ?_) | (refine wpList_store_S rfl _ _ rfl _ rfl _ rfl (by simp [hl]) (isRowB3' _ _ _ _ _ _ (by simp [S_size, zeroZ])) _ (setRow3 _ _ _ _ _ _) ?_))
  exact bodyPost_ret (v := .agg (S (z.set 136 ((k : Int) % 128)))) (results_cell_row Tryz.results144 _ _ _ 25 (S (z.set 136 ((k : Int) % 128))) (0, 0) _ rfl (heap3 _ _ _ _) Tryz.underlying25 rfl (by rw [size34, S_size]; simp [hl])) rfl ⟨HN.out, below3 _ _ _ _⟩

set_option maxRecDepth 100000 in
set_option maxHeartbeats 2000000 in
theorem perform_turn (z : List Int) (a b c k : Nat) (w : World) (hl : z.length = 138) (ha : a < 8) (r0 : 0 ≤ gz z a) (r1 : gz z a < 4294967296) (p0 : 0 ≤ gz z 136) (p1 : gz z 136 < 128) :
    Calls Tryz.prog 144 #[.agg (S z), .agg #[.int .i64 10, .int .i64 a, .int .i64 b, .int .i64 c, .int .i64 k]] w fun e' w' => e' = .returned (.agg (S (nxt z 10 a b c k))) ∧ Below w.heap.size w w' := by
  have hx : ∀ i, i < 138 → (S z)[i]? = some (.int .i64 (gz z i)) := fun i hi => S_get z i (by omega)
  have h136 := hx 136 (by omega)
  have hset := S_set
  have zz := zero34
  have haa := hx a (by omega)
  have ha' : (a : Int) < 8 := by omega
  have HN : Hid (Ending.returned (.agg (S (z.set 136 (gz z a % 128)))) = .returned (.agg (S (nxt z 10 a b c k)))) := by simp [Hid, nxt]
  clear hx
  go_enter Tryz.func144, Tryz.ntmps144
  go_wp2_with (first | (refine wpList_load_S rfl _ rfl _ rfl (isRowB3 _ _ _ _ _ _ (by simp [S_size, hl])) _ (rowD3 _ _ _ _ _) ?_) | (refine wpList_store_S rfl _ _ rfl _ rfl _ rfl (by simp [hl]) (isRowB3' _ _ _ _ _ _ (by simp [S_size, zeroZ])) _ (setRow3 _ _ _ _ _ _) ?_))
  exact bodyPost_ret (v := .agg (S (z.set 136 (gz z a % 128)))) (results_cell_row Tryz.results144 _ _ _ 25 (S (z.set 136 (gz z a % 128))) (0, 0) _ rfl (heap3 _ _ _ _) Tryz.underlying25 rfl (by rw [size34, S_size]; simp [hl])) rfl ⟨HN.out, below3 _ _ _ _⟩
end Go.Proofs.YtmmflekajbeamabGreatDoor
