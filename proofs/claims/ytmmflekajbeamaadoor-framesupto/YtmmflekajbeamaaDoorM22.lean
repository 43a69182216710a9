/-
  Frames: the first frame of a text (strings.HasPrefix, frame.first).
  Frames: an area in memory; frames that open and end one (takeOpen, takeWhole).
  Frames: a copy of a text (strings.Clone), by the kit's own law of it; a block's words as a text again.
  A region that draws its order, by a plan: which operations are readers that are taken first (wherever they stand), and the one order in which the others come; S is shown anew behind all that come ahead of q.
-/
import Derived.Test.YtmmflekajbeamaaDoorM21
import Derived.Test.YtmmflekajbeamaaDoorM15
import Derived.Test.YtmmflekajbeamaaDoorM14
import Derived.Test.YtmmflekajbeamaaDoorM19
import Derived.Shelf.Pu.Clone
import Derived.Test.YtmmflekajbeamaaDoorM06
namespace Go.Proofs.YtmmflekajbeamaaDoor
open Go.RowKit

def preS (s t : ByteArray) : Bool := decide (t.size ≤ s.size) && ((s.extract 0 t.size).toList == t.toList)
theorem preS_true {s t : ByteArray} : preS s t = true ↔ t.size ≤ s.size ∧ s.extract 0 t.size = t := by
  unfold preS
  rw [Bool.and_eq_true, decide_eq_true_eq, beq_iff_eq, ByteArray.toList_eq, ByteArray.toList_eq]
  exact ⟨fun h => ⟨h.1, lst_inj.1 h.2⟩, fun h => ⟨h.1, by rw [h.2]⟩⟩
set_option maxRecDepth 100000 in
set_option maxHeartbeats 1000000 in
theorem hasPre_any (s t : ByteArray) (w : World) :
    Calls Tryd.prog 144 #[.string s, .string t] w fun e' w' => e' = .returned (.bool (preS s t)) ∧ w' = w := by
  by_cases h : t.size ≤ s.size
  · have HP : Hid (((s.extract 0 t.size).toList == t.toList) = preS s t) := by unfold Hid preS; rw [decide_eq_true h, Bool.true_and]
    go_enter Tryd.func144, Tryd.ntmps144
    go_wp2
    go_ret
    exact ⟨ret_bool HP.out, rfl⟩
  · have HP : Hid (false = preS s t) := by unfold Hid preS; rw [decide_eq_false h, Bool.false_and]
    go_enter Tryd.func144, Tryd.ntmps144
    go_wp2
    go_ret
    exact ⟨ret_bool HP.out, rfl⟩
theorem ext_pay (s : ByteArray) (n : Nat) (h : 4 + n ≤ s.size) : (s.extract 4 s.size).extract 0 n = s.extract 4 (4 + n) := by
  rw [← lst_inj, lst_ext, lst_ext, lst_ext, List.drop_zero, Nat.sub_zero, List.take_take, Nat.min_eq_left (by omega), show 4 + n - 4 = n by omega]
/-- What the program's first frame is. -/
def frV (k : Int) (p : ByteArray) (n : Int) : Array Value := #[.int .i64 k, .string p, .int .i64 n]
def FstF (s : ByteArray) (e' : Ending) : Prop :=
  (frst (lst s) = none ∧ e' = .returned (.tuple #[.agg (frV 0 (bya []) 0), .bool false])) ∨ ∃ (K : Nat) (q : List UInt8), frst (lst s) = some (K, q) ∧ e' = .returned (.tuple #[.agg (frV K (bya q) ((q.length + 8 : Nat) : Int)), .bool true])
theorem frV_one (k : Int) (p : ByteArray) (n : Int) : (frV k p n).all (·.oneCell') = true := by simp [frV, Value.oneCell']
theorem wpList_storeF {ops : Array Oper} {rest : List Oper} {o : Oper} {a : Act} {w : World} {Q : Exit → Act → World → Prop} (hgd : o.guard = none) (x y : Operand) (ho : o.op = .store 149 x y)
    (g : Nat) (k : Int) (p : ByteArray) (n : Int) (hx : a.eval x = .pointer (some ⟨g, 0, none⟩)) (hy : a.eval y = .agg (frV k p n)) (old : Array Value) (hg : w.heap[g]? = some (.cells old 149 (0, 0))) (hold : old.size = 3)
    (h : wpList Tryd.prog ops Q rest (a.put o.dst undef) (w.setRow g (frV k p n))) : wpList Tryd.prog ops Q (o :: rest) a w :=
  wpList_store_row hgd 149 x y ho g (frV k p n) hx hy 149 old hg (show (Tryd.prog.info? 149).map (·.size) = some 3 by kernel_rfl) hold (frV_one k p n) h
theorem size149 : (Tryd.prog.info? 149).map (·.size) = some 3 := by kernel_rfl
theorem build149 (w : World) : (Instr.build 149 #[]).run Tryd.prog w = .ok (.agg (frV 0 (bya []) 0)) w := by kernel_rfl
theorem zero149 (w : World) : (zeroValue 149).run Tryd.prog w = .ok (.agg (frV 0 (bya []) 0)) w := by kernel_rfl
theorem res_F {fn : Func} {p u : Tmp} (h : fn.results = #[.cell p 149, .tmp u]) (tmps : Array Value) (w : World) (g : Nat) (c : Array Value) (hz : c.size = 3)
    (hp : tmps.getD p undef = .pointer (some ⟨g, 0, none⟩)) (hg : w.heap[g]? = some (.cells c 149 (0, 0))) (x : Value) (hu : tmps.getD u undef = x) :
    (results fn tmps).run Tryd.prog w = .ok (.tuple #[.agg c, x]) w := by
  rw [results_cell_tmp h, hp, hu]
  simp only [asAddr, Sem.run_pure, Result.andThen]
  rw [run_loadVar_row w g 149 149 c (0, 0) _ hg Tryd.underlying149 rfl (by rw [size149, hz])]

set_option maxRecDepth 100000 in
set_option maxHeartbeats 4000000 in
theorem frFirst_any (s : ByteArray) (w : World) (hs : s.size ≤ 2000000) :
    Calls Tryd.prog 110 #[.string s] w fun e' w' => Below w.heap.size w w' ∧ FstF s e' := by
  have bz := build149
  have zz := zero149
  have HW0 : Hid ((w.alloc (.cells (frV 0 (bya []) 0) 149)).heap[w.heap.size]? = some (.cells (frV 0 (bya []) 0) 149 (0, 0))) := _root_.Go.heap_alloc_new w _
  have HB0 := hide ((Below.refl w.heap.size w).alloc (Nat.le_refl _) (.cells (frV 0 (bya []) 0) 149))
  by_cases h4 : s.size < 4
  · have HN := hide (frst_short s (.inl (by omega)))
    have h4' : (s.size : Int) < 4 := by omega
    go_enter Tryd.func110, Tryd.ntmps110
    go_wp2_with (refine wpList_storeF rfl _ _ rfl w.heap.size 0 (bya []) 0 rfl rfl _ HW0.out rfl ?_)
    exact bodyPost_ret (v := .tuple #[.agg (frV 0 (bya []) 0), .bool false]) (res_F Tryd.results110 _ _ w.heap.size _ rfl rfl (setRow_heap _ _ _ _ _ (0, 0) HW0.out) _ rfl) rfl ⟨below_setRow HB0.out (Nat.le_refl _) _, .inl ⟨HN.out, rfl⟩⟩
  have h4' : ¬ (s.size : Int) < 4 := by omega
  have hg1 := bt_get s 1 (by omega)
  have hbl := bt_lt s 1
  have HRd := hide (fun w' => numRead_any (s.extract 2 4) w' (by rw [ByteArray.size_extract]; omega))
  rw [show (s.extract 2 4).size = 2 by rw [ByteArray.size_extract]; omega, show s.extract 2 4 = s.extract 2 (2 + 2) from rfl, extr_beN s 2 2 0 (by omega) 2 (by omega)] at HRd
  have ez : (s.extract 4 s.size).size = s.size - 4 := by rw [ByteArray.size_extract]; omega
  have hb : beN s 2 2 < 65536 := beN_lt s 2 2
  have hNm : (s.extract 4 s.size).size < beN s 2 2 → frst (lst s) = none := fun h => frst_short s (by omega)
  have e0 : (beN s 2 2 : Int) ≤ (s.size : Int) - 4 ∨ (s.size : Int) - 4 < (beN s 2 2 : Int) := by omega
  by_cases hgt : s.size - 4 < beN s 2 2
  · have HN := hide (frst_short s (by omega))
    have hgt' : (((s.extract 4 s.size).size : Nat) : Int) < (beN s 2 2 : Int) := by omega
    clear hNm e0
    generalize beN s 2 2 = n at *
    generalize bt s 1 = K at *
    go_enter Tryd.func110, Tryd.ntmps110
    go_upto_region 3 with fail
    go_quiet (fail)
    have HB1 := hide (below_drewN HB0.out nq)
    have HW1 : Hid (((w.alloc (.cells (frV 0 (bya []) 0) 149)).drewN nq).heap[w.heap.size]? = some (.cells (frV 0 (bya []) 0) 149 (0, 0))) := HW0.out
    generalize (w.alloc (.cells (frV 0 (bya []) 0) 149)).drewN nq = w1 at *
    go_wp2_with fail
    refine (unhide HRd _).mono ?_
    rintro e w' ⟨rfl, hw⟩
    obtain rfl := hw.symm
    go_wp2_with (refine wpList_storeF rfl _ _ rfl w.heap.size 0 (bya []) 0 rfl rfl _ HW1.out rfl ?_)
    exact bodyPost_ret (v := .tuple #[.agg (frV 0 (bya []) 0), .bool false]) (res_F Tryd.results110 _ _ w.heap.size _ rfl rfl (setRow_heap _ _ _ _ _ (0, 0) HW1.out) _ rfl) rfl ⟨below_setRow HB1.out (Nat.le_refl _) _, .inl ⟨HN.out, rfl⟩⟩
  have hle' : ¬ (((s.extract 4 s.size).size : Nat) : Int) < (beN s 2 2 : Int) := by omega
  have hle2 : (beN s 2 2 : Int) ≤ (((s.extract 4 s.size).size : Nat) : Int) := by omega
  have hpay := ext_pay s (beN s 2 2) (by omega)
  have HSl := hide (fun w' => frSeal_any (bt s 1 : Nat) (s.extract 4 (4 + beN s 2 2)) w')
  have HPy := hide hpay
  have hpz : (s.extract 4 (4 + beN s 2 2)).size = beN s 2 2 := by rw [ByteArray.size_extract]; omega
  -- the frame, if there is one
  have HY : Hid (sealOK (bt s 1 : Nat) (s.extract 4 (4 + beN s 2 2)) → preS s (bya (frT (bt s 1) (lst (s.extract 4 (4 + beN s 2 2))))) = true → frst (lst s) = some (bt s 1, lst (s.extract 4 (4 + beN s 2 2)))) := fun hok hp => by
    obtain ⟨h1, h2⟩ := preS_true.1 hp
    have hz : (bya (frT (bt s 1) (lst (s.extract 4 (4 + beN s 2 2))))).size = beN s 2 2 + 8 := by rw [bya_size, frT_len, lst_len, hpz]
    rw [hz] at h1 h2
    refine (frst_eq s (by omega) (by omega)).1 ⟨hok, ?_⟩
    rw [Nat.add_comm 8 (beN s 2 2)]
    exact h2
  have HNo : Hid ((¬ sealOK (bt s 1 : Nat) (s.extract 4 (4 + beN s 2 2)) ∨ preS s (bya (frT (bt s 1) (lst (s.extract 4 (4 + beN s 2 2))))) = false) → frst (lst s) = none) := fun h => by
    by_cases h8 : beN s 2 2 + 8 ≤ s.size
    · refine (frst_eq s (by omega) h8).2 (fun hh => ?_)
      rcases h with h | h
      · exact h hh.1
      · have hz : (bya (frT (bt s 1) (lst (s.extract 4 (4 + beN s 2 2))))).size = beN s 2 2 + 8 := by rw [bya_size, frT_len, lst_len, hpz]
        have : preS s (bya (frT (bt s 1) (lst (s.extract 4 (4 + beN s 2 2))))) = true := preS_true.2 ⟨by rw [hz]; exact h8, by rw [hz, Nat.add_comm (beN s 2 2) 8]; exact hh.2⟩
        rw [this] at h
        cases h
    · exact frst_short s (.inr (by omega))
  have HPz := hide hpz
  have HPr := hide (fun t w' => hasPre_any s t w')
  clear hNm e0 hpay hpz
  generalize beN s 2 2 = n at *
  generalize bt s 1 = K at *
  go_enter Tryd.func110, Tryd.ntmps110
  go_upto_region 3 with fail
  go_quiet (fail)
  have HB1 := hide (below_drewN HB0.out nq)
  have HW1 : Hid (((w.alloc (.cells (frV 0 (bya []) 0) 149)).drewN nq).heap[w.heap.size]? = some (.cells (frV 0 (bya []) 0) 149 (0, 0))) := HW0.out
  generalize (w.alloc (.cells (frV 0 (bya []) 0) 149)).drewN nq = w1 at *
  go_wp2_with fail
  refine (unhide HRd _).mono ?_
  rintro e w' ⟨rfl, hw⟩
  obtain rfl := hw.symm
  go_wp2_with fail
  rw [HPy.out]
  refine (unhide HSl _).mono ?_
  rintro e w2 ⟨hb2, ⟨hok, rfl⟩ | ⟨hno, rfl⟩⟩
  · have HB2 : Hid (Below w.heap.size w w2) := HB1.out.trans (hb2.mono (by have := HB1.out.size; omega))
    have HW2 : Hid (w2.heap[w.heap.size]? = some (.cells (frV 0 (bya []) 0) 149 (0, 0))) := (hb2.block _ (Array.getElem?_eq_some_iff.1 HW1.out).1).trans HW1.out
    have HOk := hide hok
    rw [Int.toNat_natCast]
    have HDs : Hid ((bya (frT K (lst (s.extract 4 (4 + n))))).size = (lst (s.extract 4 (4 + n))).length + 8) := by unfold Hid; rw [bya_size, frT_len]
    have HP := hide (HPr.out (bya (frT K (lst (s.extract 4 (4 + n))))))
    have HPb : Hid (bya (lst (s.extract 4 (4 + n))) = s.extract 4 (4 + n)) := bya_lst _
    cases hp : preS s (bya (frT K (lst (s.extract 4 (4 + n)))))
    · rw [hp] at HP
      have HN := hide (HNo.out (.inr hp))
      clear hp hb2 hok HSl HY HNo
      generalize bya (frT K (lst (s.extract 4 (4 + n)))) = D at *
      go_wp2_with fail
      refine (unhide HP _).mono ?_
      rintro e w' ⟨rfl, hw⟩
      obtain rfl := hw.symm
      go_wp2_with (refine wpList_storeF rfl _ _ rfl w.heap.size 0 (bya []) 0 rfl rfl _ HW2.out rfl ?_)
      exact bodyPost_ret (v := .tuple #[.agg (frV 0 (bya []) 0), .bool false]) (res_F Tryd.results110 _ _ w.heap.size _ rfl rfl (setRow_heap _ _ _ _ _ (0, 0) HW2.out) _ rfl) rfl ⟨below_setRow HB2.out (Nat.le_refl _) _, .inl ⟨HN.out, rfl⟩⟩
    · rw [hp] at HP
      have HN := hide (HY.out HOk.out hp)
      clear hp hb2 hok HSl HY HNo
      generalize bya (frT K (lst (s.extract 4 (4 + n)))) = D at *
      go_wp2_with fail
      refine (unhide HP _).mono ?_
      rintro e w' ⟨rfl, hw⟩
      obtain rfl := hw.symm
      go_wp2_with (refine wpList_storeF rfl _ _ rfl w.heap.size K (s.extract 4 (4 + n)) (D.size : Int) rfl rfl _ HW2.out rfl ?_)
      refine bodyPost_ret (v := .tuple #[.agg (frV K (s.extract 4 (4 + n)) (D.size : Int)), .bool true]) (res_F Tryd.results110 _ _ w.heap.size _ rfl rfl (setRow_heap _ _ _ _ _ (0, 0) HW2.out) _ rfl) rfl ⟨below_setRow HB2.out (Nat.le_refl _) _, .inr ⟨_, _, HN.out, ?_⟩⟩
      rw [HPb.out, HDs.out]
  · have HB2 : Hid (Below w.heap.size w w2) := HB1.out.trans (hb2.mono (by have := HB1.out.size; omega))
    have HW2 : Hid (w2.heap[w.heap.size]? = some (.cells (frV 0 (bya []) 0) 149 (0, 0))) := (hb2.block _ (Array.getElem?_eq_some_iff.1 HW1.out).1).trans HW1.out
    have HN := hide (HNo.out (.inl hno))
    clear hb2 hno HSl HY HNo
    go_wp2_with (refine wpList_storeF rfl _ _ rfl w.heap.size 0 (bya []) 0 rfl rfl _ HW2.out rfl ?_)
    exact bodyPost_ret (v := .tuple #[.agg (frV 0 (bya []) 0), .bool false]) (res_F Tryd.results110 _ _ w.heap.size _ rfl rfl (setRow_heap _ _ _ _ _ (0, 0) HW2.out) _ rfl) rfl ⟨below_setRow HB2.out (Nat.le_refl _) _, .inl ⟨HN.out, rfl⟩⟩
end Go.Proofs.YtmmflekajbeamaaDoor

namespace Go.Proofs.YtmmflekajbeamaaDoor
open Go.RowKit

def knCs (l : List (List UInt8 × List UInt8)) : List Value := l.flatMap fun x => [.string (bya x.1), .string (bya x.2)]
theorem knCs_snoc (l : List (List UInt8 × List UInt8)) (x : List UInt8 × List UInt8) : knCs (l ++ [x]) = knCs l ++ [.string (bya x.1), .string (bya x.2)] := by simp [knCs]
def arV (gen : Nat) (whole : Bool) (good : Nat) (v : Value) : Array Value := #[.int .i64 (gen : Int), .bool whole, .int .i64 (good : Int), v]
/-- An area as it lies in memory. -/
structure ArAt (A : Nat) (a : ArN) (v : Value) (w : World) : Prop where
  cells : w.heap[A]? = some (.cells (arV a.gen a.whole a.good v) 74 (0, 0))
  list : w.ownsRow (A + 1) 72 2 v a.list.length (knCs a.list)
/-- What a call keeps that turns an area. -/
def TkFr (A : Nat) (v : Value) (w w' : World) : Prop := Below A w w' ∧ ∀ g, g < w.heap.size → g ≠ A → v.ownBlock ≠ some g → w'.heap[g]? = w.heap[g]?
theorem ArAt.lt {A : Nat} {a : ArN} {v : Value} {w : World} (h : ArAt A a v w) : A < w.heap.size := (Array.getElem?_eq_some_iff.1 h.cells).1
theorem ArAt.cell {A : Nat} {a : ArN} {v : Value} {w : World} (h : ArAt A a v w) (i : Nat) : w.cell? ⟨A, i, none⟩ = (arV a.gen a.whole a.good v)[i]? := cell_row h.cells i
theorem ArAt.frozen {A : Nat} {a : ArN} {v : Value} {w : World} (h : ArAt A a v w) (i : Nat) : w.frozen? ⟨A, i, none⟩ = false := by simp [World.frozen?, h.cells]
theorem ArAt.own {A : Nat} {a : ArN} {v : Value} {w : World} (h : ArAt A a v w) : v.ownBlock ≠ some A := fun e => by
  have := (row_lt h.list A e).1
  omega
theorem ArAt.above {A : Nat} {a : ArN} {v : Value} {w w' : World} (h : ArAt A a v w) (hb : Below w.heap.size w w') : ArAt A a v w' :=
  ⟨(hb.block _ h.lt).trans h.cells, own_grow h.list hb⟩
theorem TkFr.of_above {A : Nat} {v : Value} {w w' : World} (hA : A < w.heap.size) (hb : Below w.heap.size w w') : TkFr A v w w' :=
  ⟨hb.mono (Nat.le_of_lt hA), fun g hg _ _ => hb.block g hg⟩
/-- A cell of the area that is not its list is turned. -/
theorem ArAt.turn {A : Nat} {a a' : ArN} {v : Value} {w : World} (h : ArAt A a v w) (i : Nat) (x : Value) (hl : a'.list = a.list) (hx : (arV a.gen a.whole a.good v).setIfInBounds i x = arV a'.gen a'.whole a'.good v) : ArAt A a' v (w.setCell ⟨A, i, none⟩ x) := by
  refine ⟨?_, ?_⟩
  · obtain ⟨hlt, hk⟩ := Array.getElem?_eq_some_iff.1 h.cells
    show (w.heap.modify A _)[A]? = _
    rw [Array.getElem?_eq_getElem (by rw [Array.size_modify]; exact hlt), Array.getElem_modify_self, hk, ← hx]
    rfl
  · rw [hl]
    refine ownsRow_keep h.list (fun g hg => heap_set_other _ _ (fun e => ?_))
    subst e
    exact h.own hg
theorem TkFr.turn {A : Nat} {v : Value} {w w' : World} (h : TkFr A v w w') (i : Nat) (x : Value) : TkFr A v w (w'.setCell ⟨A, i, none⟩ x) :=
  ⟨h.1.setCell (p := ⟨A, i, none⟩) (Nat.le_refl _) _, fun g hg hn ho => (heap_set_other _ _ hn).trans (h.2 g hg hn ho)⟩

theorem TkFr.refl (A : Nat) (v : Value) (w : World) : TkFr A v w w := ⟨Below.refl _ _, fun _ _ _ _ => rfl⟩
theorem TkFr.alloc {A : Nat} {v : Value} {w w' : World} (h : TkFr A v w w') (hA : A < w.heap.size) (o : Obj) : TkFr A v w (w'.alloc o) :=
  ⟨h.1.alloc (by have := h.1.size; omega) o, fun g hg hn ho => (Below.heap_alloc w' _ _ (by have := h.1.size; omega)).trans (h.2 g hg hn ho)⟩
theorem ArAt.alloc {A : Nat} {a : ArN} {v : Value} {w : World} (h : ArAt A a v w) (o : Obj) : ArAt A a v (w.alloc o) := h.above ((Below.refl _ _).alloc (Nat.le_refl _) o)
/-- What taking a frame leaves: the area's good bytes are not counted yet. -/
def TkPost (A : Nat) (a : ArN) (v : Value) (r : Option ArN) (w : World) (e' : Ending) (w' : World) : Prop :=
  TkFr A v w w' ∧ ((∃ a' v', r = some a' ∧ e' = .returned (.bool true) ∧ ArAt A ⟨a'.gen, a'.whole, a.good, a'.list⟩ v' w' ∧ (∀ g, v'.ownBlock = some g → v.ownBlock = some g ∨ w.heap.size ≤ g)) ∨ (r = none ∧ e' = .returned (.bool false) ∧ ArAt A a v w'))
def rOpen (a : ArN) (K : Nat) (q : List UInt8) : Option ArN := if K = 1 ∧ q.length = 4 ∧ beN (bya q) 0 4 ≠ 0 then some ⟨beN (bya q) 0 4, a.whole, a.good + (q.length + 8), a.list⟩ else none
def rWhole (a : ArN) (q : List UInt8) : Option ArN := if a.whole = false ∧ q = [] then some ⟨a.gen, true, a.good + (q.length + 8), a.list⟩ else none

set_option maxRecDepth 100000 in
set_option maxHeartbeats 2000000 in
/-- An Open frame at the beginning of an area. -/
theorem takeOpen_any (A : Nat) (a : ArN) (v : Value) (K : Nat) (q : List UInt8) (n : Int) (w : World) (h : ArAt A a v w) (hg : a.gen = 0) :
    Calls Tryd.prog 145 #[.pointer (some ⟨A, 0, none⟩), .agg #[.int .i64 (K : Int), .string (bya q), .int .i64 n]] w (TkPost A a v (rOpen a K q) w) := by
  have HZ : Hid ((bya q).size = q.length) := bya_size q
  have hA := h.lt
  have hne : ¬ A = w.heap.size := by omega
  have g0 : w.cell? ⟨A, 0, none⟩ = some (.int .i64 (a.gen : Int)) := h.cell 0
  have f0 := h.frozen 0
  have HNo : Hid (∀ o, rOpen a K q = none → TkPost A a v (rOpen a K q) w (.returned (.bool false)) (w.alloc o)) := fun o hr => ⟨(TkFr.refl A v w).alloc hA o, .inr ⟨hr, rfl, h.alloc o⟩⟩
  have HZero : Hid (∀ o, rOpen a K q = none → TkPost A a v (rOpen a K q) w (.returned (.bool false)) ((w.setCell ⟨A, 0, none⟩ (.int .i64 0)).alloc o)) := fun o hr => by
    refine ⟨((TkFr.refl A v w).turn 0 _).alloc hA o, .inr ⟨hr, rfl, ?_⟩⟩
    refine (h.turn (a' := a) 0 (.int .i64 0) rfl ?_).alloc o
    rw [hg]
    rfl
  have HYes : Hid (∀ o, (K = 1 ∧ q.length = 4 ∧ beN (bya q) 0 4 ≠ 0) → TkPost A a v (rOpen a K q) w (.returned (.bool true)) ((w.setCell ⟨A, 0, none⟩ (.int .i64 (beN (bya q) 0 4 : Int))).alloc o)) := fun o hr =>
    ⟨((TkFr.refl A v w).turn 0 _).alloc hA o, .inl ⟨_, v, if_pos hr, rfl, (h.turn (a' := ⟨beN (bya q) 0 4, a.whole, a.good, a.list⟩) 0 _ rfl rfl).alloc o, fun g hg => .inl hg⟩⟩
  have HR : Hid (¬ (K = 1 ∧ q.length = 4 ∧ beN (bya q) 0 4 ≠ 0) → rOpen a K q = none) := fun hc => if_neg hc
  clear h
  generalize rOpen a K q = R at *
  generalize bya q = D at *
  by_cases hc : K = 1 ∧ q.length = 4
  · obtain ⟨rfl, hl⟩ := hc
    have hz' : (D.size : Int) = 4 := by have := HZ.out; omega
    have HRd := hide (fun w' => numRead_any D w' (by omega))
    rw [show D.size = 4 by omega] at HRd
    have HL := hide hl
    clear hl
    have hbl : beN D 0 4 < 4294967296 := beN_lt D 0 4
    generalize beN D 0 4 = X at *
    by_cases hx0 : X = 0
    · subst hx0
      have HN := hide (HR.out (fun hh => hh.2.2 rfl))
      go_enter Tryd.func145, Tryd.ntmps145
      go_wp2_with fail
      refine (unhide HRd _).mono ?_
      rintro e w' ⟨rfl, hw⟩
      obtain rfl := hw.symm
      go_wp2_with fail
      go_ret
      exact HZero.out _ HN.out
    · have hx1 : (0 : Int) < (X : Int) := by omega
      have hx2 : decide (0 < X) = true := by rw [decide_eq_true_eq]; omega
      have HY := hide (fun o => HYes.out o ⟨rfl, HL.out, hx0⟩)
      go_enter Tryd.func145, Tryd.ntmps145
      go_wp2_with fail
      refine (unhide HRd _).mono ?_
      rintro e w' ⟨rfl, hw⟩
      obtain rfl := hw.symm
      go_wp2_with fail
      go_ret
      exact HY.out _
  · have HN := hide (HR.out (fun hh => hc ⟨hh.1, hh.2.1⟩))
    by_cases hk : K = 1
    · subst hk
      have hz' : ((D.size : Int) == 4) = false := by have := HZ.out; rw [beq_eq_false_iff_ne]; intro e; exact hc ⟨rfl, by omega⟩
      clear hc
      go_enter Tryd.func145, Tryd.ntmps145
      go_wp2_with fail
      go_ret
      exact HNo.out _ HN.out
    · have hk' : ((K : Int) == 1) = false := by rw [beq_eq_false_iff_ne]; omega
      clear hc
      go_enter Tryd.func145, Tryd.ntmps145
      go_wp2_with fail
      go_ret
      exact HNo.out _ HN.out

theorem bya_ne {q : List UInt8} (h : q ≠ []) : ((bya q).toList == ([] : List UInt8)) = false := by
  rw [beq_eq_false_iff_ne, ByteArray.toList_eq]
  intro e
  apply h
  rw [← bya_list q]
  exact e
set_option maxRecDepth 100000 in
set_option maxHeartbeats 2000000 in
/-- A Whole frame. -/
theorem takeWhole_any (A : Nat) (a : ArN) (v : Value) (K : Nat) (q : List UInt8) (n : Int) (w : World) (h : ArAt A a v w) :
    Calls Tryd.prog 147 #[.pointer (some ⟨A, 0, none⟩), .agg #[.int .i64 (K : Int), .string (bya q), .int .i64 n]] w (TkPost A a v (rWhole a q) w) := by
  have hA := h.lt
  have hne : ¬ A = w.heap.size := by omega
  have g1 : w.cell? ⟨A, 1, none⟩ = some (.bool a.whole) := h.cell 1
  have f1 := h.frozen 1
  have HNo : Hid (∀ o, rWhole a q = none → TkPost A a v (rWhole a q) w (.returned (.bool false)) (w.alloc o)) := fun o hr => ⟨(TkFr.refl A v w).alloc hA o, .inr ⟨hr, rfl, h.alloc o⟩⟩
  have HYes : Hid (∀ o, (a.whole = false ∧ q = []) → TkPost A a v (rWhole a q) w (.returned (.bool true)) ((w.setCell ⟨A, 1, none⟩ (.bool true)).alloc o)) := fun o hr =>
    ⟨((TkFr.refl A v w).turn 1 _).alloc hA o, .inl ⟨_, v, if_pos hr, rfl, (h.turn (a' := ⟨a.gen, true, a.good, a.list⟩) 1 _ rfl rfl).alloc o, fun g hg => .inl hg⟩⟩
  have HR : Hid (¬ (a.whole = false ∧ q = []) → rWhole a q = none) := fun hc => if_neg hc
  clear h
  generalize rWhole a q = R at *
  cases hwh : a.whole
  · rw [hwh] at g1
    by_cases hq : q = []
    · have HY := hide (fun o => HYes.out o ⟨hwh, hq⟩)
      subst hq
      have hqb : ((bya []).toList == ([] : List UInt8)) = true := by rw [ByteArray.toList_eq, bya_list]; rfl
      go_enter Tryd.func147, Tryd.ntmps147
      go_wp2_with fail
      go_ret
      exact HY.out _
    · have hqb := bya_ne hq
      have HN := hide (HR.out (fun hh => hq hh.2))
      clear hq
      go_enter Tryd.func147, Tryd.ntmps147
      go_wp2_with fail
      go_ret
      exact HNo.out _ HN.out
  · rw [hwh] at g1
    have HN := hide (HR.out (fun hh => by rw [hwh] at hh; cases hh.1))
    go_enter Tryd.func147, Tryd.ntmps147
    go_wp2_with fail
    go_ret
    exact HNo.out _ HN.out
end Go.Proofs.YtmmflekajbeamaaDoor

namespace Go.Proofs.YtmmflekajbeamaaDoor
open Go.RowKit Go.Shelf

def renC : Ren := ⟨fun _ => 179, fun t => if t = 0 then 0 else if t = 3 then 3 else if t = 4 then 4 else if t = 5 then 5 else if t = 9 then 9 else if t = 37 then 76 else 230, fun x => x⟩
set_option maxRecDepth 100000 in
theorem laysC : LaysPu.n25 Tryd.prog renC := by
  constructor <;> first | kernel_rfl | (intro w; kernel_rfl)
set_option maxRecDepth 100000 in
theorem clone_any (s : ByteArray) (w : World) (hs : s.size ≤ 2000000) :
    Calls Tryd.prog 166 #[.string s] w fun e' w' => e' = .returned (.string s) ∧ Below w.heap.size w w' := by
  have HC := hide (AnyPu.stringslite_Clone laysC s w (by omega))
  go_enter Tryd.func166, Tryd.ntmps166
  go_wp2_with fail
  refine (unhide HC).mono ?_
  rintro e w1 ⟨rfl, hb⟩
  have HB := hide hb
  clear hb
  go_wp2_with fail
  go_ret
  exact ⟨rfl, HB.out⟩
theorem numB_be (s : ByteArray) (i : Nat) : numB 4 (beN s i 4) = [s.get! i, s.get! (i + 1), s.get! (i + 2), s.get! (i + 3)] := by
  have h0 := (s.get! i).toNat_lt; have h1 := (s.get! (i + 1)).toNat_lt; have h2 := (s.get! (i + 2)).toNat_lt; have h3 := (s.get! (i + 3)).toNat_lt
  simp only [numB, beN, Nat.reducePow, Nat.div_one, Nat.add_zero]
  have e : ∀ (b : UInt8) (n : Nat), n = b.toNat → UInt8.ofNat n = b := fun b n h => by rw [h]; simp
  rw [e (s.get! i) _ (by omega), e (s.get! (i + 1)) _ (by omega), e (s.get! (i + 2)) _ (by omega), e (s.get! (i + 3)) _ (by omega)]
theorem wds_take (s : ByteArray) : ∀ k, 4 * k ≤ s.size → wdsT (blkL s k) = (lst s).take (4 * k) := by
  intro k
  induction k with
  | zero => intro _; simp [blkL, wdsT]
  | succ k ih =>
    intro hk
    rw [blkL_succ, wdsT_snoc, ih (by omega)]
    unfold wdAt
    rw [numB_be, show 4 * (k + 1) = 4 * k + 1 + 1 + 1 + 1 by omega, take_bt (by omega), take_bt (by omega), take_bt (by omega), take_bt (by omega)]
    simp
theorem wds_lst {s : ByteArray} (h : s.size % 4 = 0) : wdsT (blkL s (s.size / 4)) = lst s := by
  rw [wds_take s _ (by omega), List.take_of_length_le (by rw [lst_len]; omega)]
end Go.Proofs.YtmmflekajbeamaaDoor

namespace Go.Proofs.YtmmflekajbeamaaDoor
open Go

section
variable {P : Program} {ops : Array Oper} {Q : Exit → Act → World → Prop} {md : Region.Mode} {S : World → Prop} {q : Nat}

def tailB (md : Region.Mode) (ops : Array Oper) : List Nat → Array Bool → Bool
  | [], listed => decide (Region.ready md ops listed = [])
  | k :: ts, listed => decide (Region.ready md ops listed = [k]) && tailB md ops ts (listed.setIfInBounds k true)
def headB (md : Region.Mode) (ops : Array Oper) (ts : List Nat) : List Nat → Array Bool → Bool
  | [], listed => tailB md ops ts listed
  | i :: rs, listed => (Region.ready md ops listed).contains i && Region.free md ops listed i && headB md ops ts rs (listed.setIfInBounds i true)
/-- The readers, one by one. -/
def wpTakeI (P : Program) (ops : Array Oper) (S : World → Prop) (Lq : Act → Prop) : List Nat → Act → Prop
  | [], a => Lq a
  | i :: rs, a => ∃ o v, ops[i]? = some o ∧ YieldsIf P ops S o v a ∧ wpTakeI P ops S Lq rs (a.put o.dst v)
/-- The others, in their order. -/
def wpTailI (P : Program) (ops : Array Oper) (Q : Exit → Act → World → Prop) (S : World → Prop) (q : Nat) : List Nat → Act → World → Prop
  | [], a, w => Q .normal a w
  | k :: ts, a, w => ∃ o, ops[k]? = some o ∧ ∀ K : Act → World → Prop, (∀ a' w', (k < q → S w') → wpTailI P ops Q S q ts a' w' → K a' w') → if Region.wanted o (yielded ops a.tmps) then o.wp P a w K Q else K (a.put o.dst undef) w
theorem wpTakeI_nil {Lq : Act → Prop} {a : Act} (h : Lq a) : wpTakeI P ops S Lq [] a := h
theorem wpTakeI_step {Lq : Act → Prop} {a : Act} {i : Nat} {o : Oper} {rs : List Nat} (v : Value) (hi : ops[i]? = some o) (hw : Region.wanted o (yielded ops a.tmps) = true) (hv : ∀ w, S w → (execOp a.eval o).run P w = .ok (.value v) w)
    (h : wpTakeI P ops S Lq rs (a.put o.dst v)) : wpTakeI P ops S Lq (i :: rs) a := ⟨o, v, hi, .inl ⟨hw, hv⟩, h⟩
theorem wpTailI_nil {a : Act} {w : World} (h : Q .normal a w) : wpTailI P ops Q S q [] a w := h
theorem wpTailI_step {k : Nat} {o : Oper} {ts : List Nat} {a : Act} {w : World} (hk : ops[k]? = some o) (hg : o.guard = none) (h : ∀ K : Act → World → Prop, (∀ a' w', (k < q → S w') → wpTailI P ops Q S q ts a' w' → K a' w') → o.wp P a w K Q) : wpTailI P ops Q S q (k :: ts) a w :=
  ⟨o, hk, fun K hK => by
    rw [if_pos (by simp [Region.wanted, hg])]
    exact h K hK⟩

theorem wpAnyQ_tailI : ∀ (ts : List Nat) (listed : Array Bool) (a : Act) (w : World), tailB md ops ts listed = true → wpTailI P ops Q S q ts a w → wpAnyQ P md ops Q S q ts.length listed a w
  | [], _, _, _, hB, h => ⟨by simpa [tailB] using hB, h⟩
  | k :: ts, listed, a, w, hB, h => by
    simp only [tailB, Bool.and_eq_true, decide_eq_true_eq] at hB
    obtain ⟨o, h0, h2⟩ := h
    refine ⟨fun h1 => (by rw [hB.1] at h1; cases h1), fun i hi => ?_⟩
    rw [hB.1] at hi
    have hik : i = k := by simpa using hi
    subst hik
    have h3 := h2 (fun a' w' => (i < q → S w') ∧ wpTailI P ops Q S q ts a' w') (fun _ _ h1 h2 => ⟨h1, h2⟩)
    have hw : wpOp P ops Q i (fun a' w' => (i < q → S w') ∧ wpTailI P ops Q S q ts a' w') a w := by
      unfold wpOp
      simp only [h0]
      split
      · rename_i hq; rw [if_pos hq] at h3; exact .inl h3
      · rename_i hq; rw [if_neg hq] at h3; exact h3
    exact wpOp_mono (fun a' w' h' => ⟨h'.1, wpAnyQ_tailI ts _ a' w' hB.2 h'.2⟩) hw
theorem wpAnyQ_headI {ts : List Nat} {w : World} (hsel : Region.noSelect ops = true) (hQ : ∀ d v c a w, Q (.panic c) (Act.put a d v) w → Q (.panic c) a w) (hS : S w) :
    ∀ (rs : List Nat) (listed : Array Bool) (a : Act), (rs.all fun i => decide (i < q) && (List.range ops.size).all fun j => decide (j < q) || Region.waitsFor md ops j i) = true → headB md ops ts rs listed = true →
      wpTakeI P ops S (fun a' => wpTailI P ops Q S q ts a' w) rs a → wpAnyQ P md ops Q S q (rs.length + ts.length) listed a w
  | [], listed, a, _, hB, h => by
    rw [List.length_nil, Nat.zero_add]
    exact wpAnyQ_tailI ts listed a w hB h
  | i :: rs, listed, a, hl, hB, h => by
    simp only [headB, Bool.and_eq_true] at hB
    simp only [List.all_cons, Bool.and_eq_true, decide_eq_true_eq] at hl
    obtain ⟨⟨hr, hf⟩, hB'⟩ := hB
    obtain ⟨o, v, h0, hy, hK⟩ := h
    rw [List.length_cons, show rs.length + 1 + ts.length = (rs.length + ts.length) + 1 by omega]
    refine wpAnyQ_first h0 (Region.noSelect_spec hsel) (hQ o.dst v) (fun j oj hj hoj => ?_) hl.1.1 (rs.length + ts.length) listed a w (Region.free_spec h0 hf) (by simpa using hr) hy hS (wpAnyQ_headI hsel hQ hS rs _ _ hl.2 hB' hK)
    have hjs : j < ops.size := (Array.getElem?_eq_some_iff.1 hoj).1
    have h1 := List.all_eq_true.1 hl.1.2 j (List.mem_range.2 hjs)
    simp only [Bool.or_eq_true, decide_eq_true_eq] at h1
    rcases h1 with h1 | h1
    · omega
    · obtain ⟨oj', hoj', e, he, hb, hon⟩ := Region.waitsFor_spec h1
      have : oj' = oj := Option.some.inj (hoj'.symm.trans hoj)
      subst this
      exact ⟨e, he, hb, hon⟩
/-- The plan fits the region. -/
def planB (ops : Array Oper) (rs ts : List Nat) (q : Nat) : Bool :=
  Region.noSelect ops && decide (rs.length + ts.length = ops.size) && (rs.all fun i => decide (i < q) && (List.range ops.size).all fun j => decide (j < q) || Region.waitsFor .any ops j i) && headB .any ops ts rs (Array.replicate ops.size false)
theorem held_pick {id : Nat} {a : Act} {w : World} (rs ts : List Nat) (q : Nat) (S : World → Prop) (hm : P.follows .mixedOrders = true) (hB : planB ops rs ts q = true)
    (hQ : ∀ d v c a w, Q (.panic c) (Act.put a d v) w → Q (.panic c) a w) (hS : S w.drew)
    (h : wpTakeI P ops S (fun a' => wpTailI P ops Q S q ts a' w.drew) rs a) : (Code.region id ops true).wp P Q a w := by
  simp only [planB, Bool.and_eq_true, decide_eq_true_eq] at hB
  obtain ⟨⟨⟨hsel, hlen⟩, hlast⟩, hhead⟩ := hB
  have H := wpAnyQ_headI (P := P) (md := .any) (Q := Q) (S := S) (q := q) (w := w.drew) hsel hQ hS rs _ a hlast hhead h
  refine wp_region_any hm ?_
  have H2 := wpAny_of_Q _ _ _ _ H
  rw [hlen] at H2
  exact H2
end
end Go.Proofs.YtmmflekajbeamaaDoor
