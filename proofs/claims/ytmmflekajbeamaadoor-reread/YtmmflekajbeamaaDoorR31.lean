/-
  Translates: puts without those whose slot nobody needs (translator.withoutIdle).
  Translates: what a translating leaves.
  Translates: the program's own Translate (translator.Translate, crib.Translate).
-/
import Derived.Test.YtmmflekajbeamaaDoorR29
import Derived.Test.YtmmflekajbeamaaDoorR30
import Derived.Maps.AppendAt
import Derived.Test.YtmmflekajbeamaaDoorR20
namespace Go.Proofs.YtmmflekajbeamaaDoor
open Go.RowKit Go.Shelf
attribute [local go_sem] Oper.semAt_some

def bvs (l : List Bool) : Array Value := (l.map Value.bool).toArray
theorem BKp.put {n₁ Bs : Nat} {w : World} (hn : n₁ ≤ w.heap.size) (hB : Bs < w.heap.size) (W : World) (l : Nat) (o o' : Obj) (hl : w.heap.size ≤ l) (h : W.heap[l]? = some o) (h1 : o.isCells = false) (h2 : o.isWalk = false) : BKp n₁ Bs W (W.putObj l o') :=
  ⟨belowK_b (w := w) hn W l o o' hl h h1 h2, by
    have := (grownBy_putObj' W l o').block Bs (by have := (Array.getElem?_eq_some_iff.1 h).1; omega) (fun e => by cases e; omega)
    exact this⟩
/-- The puts that have come, in their order. -/
def qsOf (pre : List BkX) : List PutN := (pre.map fun x => x.1.2).reverse
theorem qsOf_snoc (pre : List BkX) (x : BkX) : qsOf (pre ++ [x]) = x.1.2 :: qsOf pre := by simp [qsOf]
theorem qsOf_bkU {ps : List PutN} (hw : ∀ p ∈ ps, okB p) : ∀ k, k ≤ ps.length → qsOf (bkU ps k) = ps.drop (ps.length - k) := by
  intro k
  induction k with
  | zero => intro _; rw [Nat.sub_zero, List.drop_length]; rfl
  | succ k ih =>
    intro hk
    rw [bkU_succ, qsOf_snoc, ih (by omega), bkF_eq hw (by omega)]
    rw [show ps.length - (k + 1) = ps.length - 1 - k by omega, List.drop_eq_getElem_cons (by omega : ps.length - 1 - k < ps.length), show ps.length - 1 - k + 1 = ps.length - k by omega]
theorem cells_own {X Y : World} {row : Option Nat} {g : Nat} {c : Array Value} {t : TypeId} (h : X.heap[g]? = some (.cells c t (0, 0))) (hg : X.grownBy Y row) (hr : ∀ r, row = some r → ∃ o : Obj, X.heap[r]? = some o ∧ o.isCells = false) : Y.heap[g]? = some (.cells c t (0, 0)) := by
  refine (hg.block g (Array.getElem?_eq_some_iff.1 h).1 (fun e => ?_)).trans h
  obtain ⟨o, ho, hc⟩ := hr g e.symm
  rw [h] at ho; cases ho; cases hc
/-- What lies in memory between two rounds. -/
def WoI (w : World) (pa : Option Addr) (pc n : Nat) (pre : List BkX) (W : World) : Prop :=
  (((∃ v, Boxed W (w.heap.size + 1) 61 v ∧ W.ownsRow w.heap.size 59 5 v (idle (qsOf pre)).length (putCs (idle (qsOf pre)).reverse) ∧ True) ∧ W.heap[w.heap.size]? = some (.cells (bvs (ndL (qsOf pre))) 186 (0, 0))) ∧ Boxed W (w.heap.size + 1 + 1) 61 (.slice pa n pc)) ∧ Below w.heap.size w W
theorem nd_own (w : World) : Own (fun (pre : List BkX) (W : World) => W.heap[w.heap.size]? = some (.cells (bvs (ndL (qsOf pre))) 186 (0, 0))) := fun _ _ _ _ hs hg hr => cells_own hs hg hr
theorem bvs_cell {W : World} {g : Nat} {t : TypeId} {l : List Bool} (h : W.heap[g]? = some (.cells (bvs l) t (0, 0))) (i : Nat) (hi : i < l.length) : W.cell? ⟨g, i, none⟩ = some (.bool (l.getD i false)) := by
  rw [cell_row h i, bvs]
  simp [List.getElem?_eq_getElem hi, List.getD_eq_getElem?_getD]
theorem bvs_frozen {W : World} {g : Nat} {t : TypeId} {l : List Bool} (h : W.heap[g]? = some (.cells (bvs l) t (0, 0))) (i : Nat) : W.frozen? ⟨g, i, none⟩ = false := by simp [World.frozen?, h]
theorem bvs_set {W : World} {g : Nat} {t : TypeId} {l : List Bool} (h : W.heap[g]? = some (.cells (bvs l) t (0, 0))) (i : Nat) (b : Bool) : (W.setCell ⟨g, i, none⟩ (.bool b)).heap[g]? = some (.cells (bvs (l.set i b)) t (0, 0)) := by
  obtain ⟨hlt, hk⟩ := Array.getElem?_eq_some_iff.1 h
  show (W.heap.modify g _)[g]? = _
  rw [Array.getElem?_eq_getElem (by rw [Array.size_modify]; exact hlt), Array.getElem_modify_self, hk]
  simp [bvs, List.map_set]
theorem WoI.own (w : World) (pa : Option Addr) (pc n : Nat) (W0 : World) (h : w.heap.size ≤ W0.heap.size) : OwnFrom W0.heap.size (WoI w pa pc n) :=
  OwnFrom.and (OwnFrom.and (OwnFrom.and (Own.from (holdsRow_own w.heap.size (w.heap.size + 1) 61 59 5 (fun pre => (idle (qsOf pre)).length) (fun pre => putCs (idle (qsOf pre)).reverse) (fun _ _ => True)) _) (Own.from (nd_own w) _)) (Own.from (boxed_own _ _ _) _)) (ownFrom_below (Nat.le_refl _) h)

set_option maxRecDepth 100000 in
set_option maxHeartbeats 4000000 in
theorem withoutIdle_in (B : Nat) (pa : Option Addr) (pc : Nat) (ps : List PutN) (w : World) (ho : w.ownsRow B 59 5 (.slice pa ps.length pc) ps.length (putCs ps)) (hl : ps.length ≤ 8) (hw : ∀ p ∈ ps, okB p) :
    CallsIn Fence.wide 6 Tryd.prog 100 #[.slice pa ps.length pc] w fun e' w' => Below w.heap.size w w' ∧ ∃ v, e' = .returned v ∧ w'.ownsRow w.heap.size 59 5 v (idle ps).length (putCs (idle ps)) := by
  refine callsIn_of_wp_marks Tryd.func100 rfl trivial ?_ rfl
  simp only [Tryd.ntmps100, List.size_toArray, List.length_cons, List.length_nil, Nat.reduceAdd, Nat.reduceSub, Array.replicate_succ, Array.replicate_zero, List.push_toArray, List.append_toArray, List.nil_append, List.cons_append]
  gi_wp2
  refine ⟨trivial, (backward_in Fence.wide 5 trivial rfl _ _ _ _).mono ?_⟩
  rintro e w' ⟨rfl, rfl⟩
  gi_wp2
  obtain ⟨W0, hW0⟩ : ∃ W0, ((w.alloc (.cells #[.bool true, .bool true, .bool true, .bool true, .bool true, .bool true, .bool true, .bool true] 186)).alloc (.cells #[.slice none 0 0] 61)).alloc (.cells #[.slice pa ps.length pc] 61) = W0 := ⟨_, rfl⟩
  have hsz : W0.heap.size = w.heap.size + 3 := by rw [← hW0]; simp
  have hB0 : Below w.heap.size w W0 := by rw [← hW0]; exact (((Below.refl _ w).alloc (Nat.le_refl _) _).alloc (by simp) _).alloc (by simp; omega) _
  have bN : W0.heap[w.heap.size]? = some (.cells (bvs (ndL (qsOf []))) 186 (0, 0)) := by
    rw [← hW0, Below.heap_alloc _ _ _ (by simp; omega), Below.heap_alloc _ _ _ (by simp), _root_.Go.heap_alloc_new]
    rfl
  have bL : Boxed W0 (w.heap.size + 1) 61 (.slice none 0 0) := by
    rw [← hW0]
    have := (Boxed.new (w.alloc (.cells #[.bool true, .bool true, .bool true, .bool true, .bool true, .bool true, .bool true, .bool true] 186)) 61 (.slice none 0 0)).alloc (.cells #[.slice pa ps.length pc] 61)
    rw [World.size_alloc] at this
    exact this
  have bS : Boxed W0 (w.heap.size + 1 + 1) 61 (.slice pa ps.length pc) := by
    rw [← hW0]
    have := Boxed.new ((w.alloc (.cells #[.bool true, .bool true, .bool true, .bool true, .bool true, .bool true, .bool true, .bool true] 186)).alloc (.cells #[.slice none 0 0] 61)) 61 (.slice pa ps.length pc)
    simp only [World.size_alloc] at this
    exact this
  rw [hW0]
  clear hW0
  have hO0 := own_grow ho hB0
  refine wpIn_rangeFunc_ownH rfl (by decide) (gf := 160) (lb := #[.pointer (some ⟨w.heap.size + 1 + 1, 0, none⟩)]) rfl trivial (enters_of Tryd.func160 (by kernel_rfl) rfl)
    (backward_stops Fence.wide 5 trivial rfl (by decide) B (w.heap.size + 1 + 1) w.heap.size (.slice pa ps.length pc) ps hw hl W0 (by omega) bS.cell hO0 (fun g hg => (row_lt ho g hg).2)) BKp.trans (BKp.put (by omega) (by omega)) (Below.refl _ _) (fun _ => rfl)
    (WoI w pa pc ps.length) (fun _ _ _ => False) (WoI.own w pa pc ps.length W0 (by omega)) (fun _ _ _ _ _ hs _ _ => hs)
    ⟨⟨⟨⟨_, bL, World.ownsRow_nil _ _ _ _, trivial⟩, bN⟩, bS⟩, hB0⟩
    (fun x a' W => ∃ Bx, w.heap.size + 1 + 1 < Bx ∧ W.heap[Bx]? = some (.cells (putV x.1.2) 59 (0, 0)) ∧ (∃ v, Boxed W (w.heap.size + 1) 61 v ∧ v.ownBlock ≠ some Bx) ∧ a' = { tmps := #[.slice pa ps.length pc, undef, .slice none 0 0, .pointer (some ⟨w.heap.size, 0, none⟩), .pointer (some ⟨w.heap.size + 1, 0, none⟩), undef, .pointer (some ⟨Bx, 0, none⟩), .agg #[.bool true, .bool true, .bool true, .bool true, .bool true, .bool true, .bool true, .bool true], .slice pa ps.length pc, .func (.func 160) #[] #[.pointer (some ⟨w.heap.size + 1 + 1, 0, none⟩)], .int .i64 (x.1.1 : Int), .agg (putV x.1.2), undef, undef, undef, undef, undef, undef, undef, undef, undef, undef, undef, undef, undef, undef, undef, undef, undef, undef, undef, undef, undef, undef, undef, undef, undef, undef, undef], defers := [] })
    (fun x a' _ X Y row hs hg hr => by obtain ⟨Bx, h1, h2, ⟨v, h4, h5⟩, h3⟩ := hs; exact ⟨Bx, h1, cells_own h2 hg (fun r e => (hr r e).2), ⟨v, cells_own h4 hg (fun r e => (hr r e).2), h5⟩, h3⟩)
    ?assign ?body ?done ?stop
  case assign =>
    rintro l pre x W K ⟨⟨⟨⟨v, hv, hrow, _⟩, hnd⟩, hbs⟩, hB1⟩ hK
    obtain ⟨⟨xi, p0, p1, p2, p3, p4⟩, hx⟩ := x
    have hpv : putV ⟨p0, p1, p2, p3, p4⟩ = #[.int .i64 (p0 : Int), .int .i64 (p1 : Int), .int .i64 (p2 : Int), .int .i64 (p3 : Int), .int .i64 (p4 : Int)] := rfl
    have hlS := hbs.lt
    gi_wp2
    exact hK _ _ ((KeepsOthers.alloc _ _).from _) ⟨(Below.refl _ W).alloc hB1.size _, Below.heap_alloc W _ _ hlS⟩ ⟨⟨⟨⟨v, hv.alloc _, hrow.alloc _, trivial⟩, (Below.heap_alloc W _ _ (Array.getElem?_eq_some_iff.1 hnd).1).trans hnd⟩, hbs.alloc _⟩, hB1.alloc hB1.size _⟩ ⟨W.heap.size, hlS, _root_.Go.heap_alloc_new W _, ⟨v, hv.alloc _, fun e => by have := (row_lt hrow _ e).2; omega⟩, rfl⟩
  case body =>
    rintro l pre x a' W hl ⟨r, hr⟩ ⟨⟨⟨⟨v, hv, hrow, _⟩, hnd⟩, hbs⟩, hB1⟩ ⟨Bx, hBx, bX, ⟨v2, hv2', hne⟩, rfl⟩ hlt
    obtain rfl : v2 = v := by
      have := hv2'.symm.trans hv
      simpa using this
    have hqs := qsOf_snoc pre x
    obtain ⟨⟨xi, p0, p1, p2, p3, p4⟩, hx⟩ := x
    have hok := hx
    obtain ⟨k1, k6, d8, a8, b8, kb, _⟩ := hx
    simp only at hqs k1 k6 d8 a8 b8
    have hpv : putV ⟨p0, p1, p2, p3, p4⟩ = #[.int .i64 (p0 : Int), .int .i64 (p1 : Int), .int .i64 (p2 : Int), .int .i64 (p3 : Int), .int .i64 (p4 : Int)] := rfl
    have x0 : W.cell? ⟨Bx, 0, none⟩ = some (.int .i64 (p0 : Int)) := cell_row bX 0
    have x1 : W.cell? ⟨Bx, 1, none⟩ = some (.int .i64 (p1 : Int)) := cell_row bX 1
    have x2 : W.cell? ⟨Bx, 2, none⟩ = some (.int .i64 (p2 : Int)) := cell_row bX 2
    have x3 : W.cell? ⟨Bx, 3, none⟩ = some (.int .i64 (p3 : Int)) := cell_row bX 3
    have x4 : W.cell? ⟨Bx, 4, none⟩ = some (.int .i64 (p4 : Int)) := cell_row bX 4
    have cn := bvs_cell hnd p1 (by rw [ndL_len]; exact d8)
    rw [ndL_get _ _ d8] at cn
    have d8' : (p1 : Int) < 8 := by omega
    have a8' : (p2 : Int) < 8 := by omega
    have b8' : (p3 : Int) < 8 := by omega
    cases hq : nd (qsOf pre) p1
    · rw [hq] at cn
      gi_wp2
      refine ⟨KeepsFrom.refl _ _, BKp.refl _ _ _, ⟨⟨⟨v2, hv, ?_, trivial⟩, ?_⟩, hbs⟩, hB1⟩
      · rw [hqs, idle, if_neg (by show ¬ nd (qsOf pre) p1 = true; rw [hq]; decide)]
        exact hrow
      · rw [hqs, ndL_skip (show nd (qsOf pre) (⟨p0, p1, p2, p3, p4⟩ : PutN).d = false from hq)]
        exact hnd
    · rw [hq] at cn
      have hc := hv.cell
      have hidl : (idle (qsOf pre)).length ≤ 8 := by
        have h1 := idle_len (qsOf pre)
        have h2 : (qsOf pre).length = pre.length := by simp [qsOf]
        omega
      have hkeep := ndL_keep (ps := qsOf pre) hok hq
      have hidn : idle (qsOf (pre ++ [⟨(xi, ⟨p0, p1, p2, p3, p4⟩), hok⟩])) = ⟨p0, p1, p2, p3, p4⟩ :: idle (qsOf pre) := by
        rw [hqs, idle, if_pos (show nd (qsOf pre) (⟨p0, p1, p2, p3, p4⟩ : PutN).d = true from hq)]
      have hWz := hB1.size
      have hlB := (Array.getElem?_eq_some_iff.1 bX).1
      have hlN := (Array.getElem?_eq_some_iff.1 hnd).1
      have n1 : Bx ≠ w.heap.size := by omega
      have n2 : Bx ≠ w.heap.size + 1 := by omega
      have n3 : w.heap.size + 1 ≠ w.heap.size := by omega
      have HApp : Hid (∀ w1 g' cap' xs, w1.ownsRow w.heap.size 59 5 (.slice (some ⟨g', 0, none⟩) ((idle (qsOf pre)).length + 1) cap') ((idle (qsOf pre)).length + 1) (putCs (idle (qsOf pre)).reverse ++ [.int .i64 (p0 : Int), .int .i64 (p1 : Int), .int .i64 (p2 : Int), .int .i64 (p3 : Int), .int .i64 (p4 : Int)]) → (W.alloc xs).grownBy w1 v2.ownBlock →
          (∀ j, w1.cell? ⟨Bx, j, none⟩ = W.cell? ⟨Bx, j, none⟩) ∧ w1.heap[w.heap.size]? = some (.cells (bvs (ndL (qsOf pre))) 186 (0, 0)) ∧ (∀ W', W'.heap[w.heap.size]? = some (.cells (bvs (ndL (⟨p0, p1, p2, p3, p4⟩ :: qsOf pre))) 186 (0, 0)) → (∀ g, g ≠ w.heap.size → W'.heap[g]? = (w1.setCell ⟨w.heap.size + 1, 0, none⟩ (.slice (some ⟨g', 0, none⟩) ((idle (qsOf pre)).length + 1) cap')).heap[g]?) → Below w.heap.size w1 W' → KeepsOthers (w1.setCell ⟨w.heap.size + 1, 0, none⟩ (.slice (some ⟨g', 0, none⟩) ((idle (qsOf pre)).length + 1) cap')) W' → KeepsFrom W0.heap.size W W' ∧ BKp w.heap.size (w.heap.size + 1 + 1) W W' ∧ WoI w pa pc ps.length (pre ++ [⟨(xi, ⟨p0, p1, p2, p3, p4⟩), hok⟩]) W')) := by
        intro w1 g' cap' xs hown' hgrow
        obtain ⟨hv1, hv2, hr2, hk2, hb2⟩ := hv.appended (by decide) hrow hB1.size (by omega) hown' hgrow
        have hN1 : w1.heap[w.heap.size]? = some (.cells (bvs (ndL (qsOf pre))) 186 (0, 0)) := by
          refine ((hgrow.block _ (by rw [size_alloc1]; omega) (fun e => ?_)).trans (Below.heap_alloc W _ _ hlN)).trans hnd
          obtain ⟨cur, hcur⟩ := ownsRow_kind hrow _ e.symm
          rw [hnd] at hcur
          cases hcur
        have hS1 : Boxed w1 (w.heap.size + 1 + 1) 61 (.slice pa ps.length pc) := (hbs.alloc xs).kept hgrow (hbs.not_row (by decide) hrow)
        refine ⟨fun j => ?_, hN1, fun W' q1 q2 q3 q4 => ?_⟩
        · refine cell_heap j ((hgrow.block Bx (by rw [size_alloc1]; omega) (fun e => hne e.symm)).trans (Below.heap_alloc W _ _ hlB))
        · have hS' : Boxed W' (w.heap.size + 1 + 1) 61 (.slice pa ps.length pc) := (q2 _ (by omega)).trans ((heap_set_other _ _ (by omega)).trans hS1)
          have hbW : Below w.heap.size W W' := by
            have h1 : Below w.heap.size W w1 := ((Below.refl _ W).alloc hWz _).grown hgrow (by rw [size_alloc1]; omega) (fun q hq => (row_lt hrow q hq).1)
            exact h1.trans q3
          refine ⟨((hk2.trans q4).from _), ⟨hbW, hS'.trans hbs.symm⟩, ⟨⟨⟨_, (q2 _ (by omega)).trans hv2, ?_, trivial⟩, ?_⟩, hS'⟩, hB1.trans hbW⟩
          · rw [hidn]
            have : putCs (⟨p0, p1, p2, p3, p4⟩ :: idle (qsOf pre)).reverse = putCs (idle (qsOf pre)).reverse ++ [.int .i64 (p0 : Int), .int .i64 (p1 : Int), .int .i64 (p2 : Int), .int .i64 (p3 : Int), .int .i64 (p4 : Int)] := by
              rw [List.reverse_cons, putCs_snoc]; rfl
            rw [this]
            refine ownsRow_keep hr2 (fun g hg => q2 g (fun e => ?_))
            subst e
            obtain ⟨cur, hcur⟩ := ownsRow_kind hr2 _ hg
            rw [show (w1.setCell ⟨w.heap.size + 1, 0, none⟩ _).heap[w.heap.size]? = _ from (heap_set_other _ _ (by omega)).trans hN1] at hcur
            cases hcur
          · rw [hqs]
            exact q1
      obtain ⟨va, vc, hvv⟩ := owns_len hrow
      subst hvv
      have hIn := infoPut
      obtain ⟨inf, hinf, hz, hsz1, hby⟩ := hIn
      have hkd : p0 = 1 ∨ p0 = 6 ∨ (2 ≤ p0 ∧ p0 ≤ 5) := by omega
      rcases hkd with rfl | rfl | ⟨h2, h5⟩
      · have hA : arB 1 = false := by decide
        have HNa : Hid (ndA ⟨1, p1, p2, p3, p4⟩ (ndL (qsOf pre)) = (ndL (qsOf pre)).set p1 false) := by unfold Hid ndA arN; simp
        have HKe := hide hkeep
        clear hkeep
        gi_wp2_with (gi_at_builtin; refine wpListIn_append_own _ rfl _ _ 61 rfl w.heap.size 59 inf _ 5 40 Tryd.underlying61 hinf hz hsz1 hby rfl (by decide) _ _ _ rfl (hrow.alloc _) ⟨W.heap.size, 0, none⟩ 1 1 [.int .i64 1, .int .i64 (p1 : Int), .int .i64 (p2 : Int), .int .i64 (p3 : Int), .int .i64 (p4 : Int)] rfl rfl (World.news_of_block (_root_.Go.heap_alloc_new W _)) (fun u hu => by simp at hu; rcases hu with rfl | rfl | rfl | rfl | rfl <;> rfl) (by unfold maxLen; omega) (by omega) (by rw [size_alloc1]; omega) ?_; intro v' w1 hown' hgrow _; obtain ⟨g', cap', rfl⟩ := ownsRow_succ hown'; obtain ⟨hb0, hN1, HEnd⟩ := HApp.out w1 g' cap' _ hown' hgrow; have y0 := (hb0 0).trans x0; have y1 := (hb0 1).trans x1; have y2 := (hb0 2).trans x2; have y3 := (hb0 3).trans x3; have hc1 : w1.cell? ⟨w.heap.size + 1, 0, none⟩ = some (.slice va (idle (qsOf pre)).length vc) := (hv.appended (by decide) hrow hB1.size (by omega) hown' hgrow).1.cell; have hf1 : w1.frozen? ⟨w.heap.size + 1, 0, none⟩ = false := (hv.appended (by decide) hrow hB1.size (by omega) hown' hgrow).1.frozen; have cn1 := bvs_cell hN1 p1 (by rw [ndL_len]; exact d8); have fn1 := bvs_frozen hN1 p1; have cn2 := bvs_cell hN1 p2 (by rw [ndL_len]; exact a8); have fn2 := bvs_frozen hN1 p2; have HE := hide HEnd; have HN1 := hide hN1; clear hb0 HEnd hN1 hgrow hown')
        refine ⟨trivial, (CallsIn.inRound l (callsIn_wide.2 (isArith_any 1 _))).mono ?_⟩
        rintro e w' ⟨rfl, hw'⟩
        obtain rfl := hw'.symm
        gi_wp2
        refine HE.out _ ?_ (fun g hg => heap_set_other _ _ hg) (((Below.refl _ _).setCell (p := ⟨w.heap.size + 1, 0, none⟩) (Nat.le_succ _) _).setCell (p := ⟨w.heap.size, p1, none⟩) (Nat.le_refl _) _) (KeepsOthers.setCell _ _ _)
        rw [HKe.out, HNa.out]
        exact bvs_set ((heap_set_other _ _ (by omega)).trans HN1.out) p1 false
      · have hA : arB 6 = false := by decide
        have HNa : Hid (ndA ⟨6, p1, p2, p3, p4⟩ (ndL (qsOf pre)) = ((ndL (qsOf pre)).set p1 false).set p2 true) := by unfold Hid ndA arN; simp
        have HKe := hide hkeep
        clear hkeep
        by_cases hpa : p2 = p1
        · subst hpa
          gi_wp2_with (gi_at_builtin; refine wpListIn_append_own _ rfl _ _ 61 rfl w.heap.size 59 inf _ 5 40 Tryd.underlying61 hinf hz hsz1 hby rfl (by decide) _ _ _ rfl (hrow.alloc _) ⟨W.heap.size, 0, none⟩ 1 1 [.int .i64 6, .int .i64 (p2 : Int), .int .i64 (p2 : Int), .int .i64 (p3 : Int), .int .i64 (p4 : Int)] rfl rfl (World.news_of_block (_root_.Go.heap_alloc_new W _)) (fun u hu => by simp at hu; rcases hu with rfl | rfl | rfl | rfl | rfl <;> rfl) (by unfold maxLen; omega) (by omega) (by rw [size_alloc1]; omega) ?_; intro v' w1 hown' hgrow _; obtain ⟨g', cap', rfl⟩ := ownsRow_succ hown'; obtain ⟨hb0, hN1, HEnd⟩ := HApp.out w1 g' cap' _ hown' hgrow; have y0 := (hb0 0).trans x0; have y1 := (hb0 1).trans x1; have y2 := (hb0 2).trans x2; have y3 := (hb0 3).trans x3; have hc1 : w1.cell? ⟨w.heap.size + 1, 0, none⟩ = some (.slice va (idle (qsOf pre)).length vc) := (hv.appended (by decide) hrow hB1.size (by omega) hown' hgrow).1.cell; have hf1 : w1.frozen? ⟨w.heap.size + 1, 0, none⟩ = false := (hv.appended (by decide) hrow hB1.size (by omega) hown' hgrow).1.frozen; have cn1 := bvs_cell hN1 p2 (by rw [ndL_len]; exact d8); have fn1 := bvs_frozen hN1 p2; have cn2 := bvs_cell hN1 p2 (by rw [ndL_len]; exact a8); have fn2 := bvs_frozen hN1 p2; have HE := hide HEnd; have HN1 := hide hN1; clear hb0 HEnd hN1 hgrow hown')
          refine ⟨trivial, (CallsIn.inRound l (callsIn_wide.2 (isArith_any 6 _))).mono ?_⟩
          rintro e w' ⟨rfl, hw'⟩
          obtain rfl := hw'.symm
          gi_wp2
          refine HE.out _ ?_ (fun g hg => (heap_set_other _ _ hg).trans (heap_set_other _ _ hg)) ((((Below.refl _ _).setCell (p := ⟨w.heap.size + 1, 0, none⟩) (Nat.le_succ _) _).setCell (p := ⟨w.heap.size, p2, none⟩) (Nat.le_refl _) _).setCell (p := ⟨w.heap.size, p2, none⟩) (Nat.le_refl _) _) ((KeepsOthers.setCell _ _ _).trans (KeepsOthers.setCell _ _ _))
          rw [HKe.out, HNa.out]
          exact bvs_set (bvs_set ((heap_set_other _ _ (by omega)).trans HN1.out) p2 false) p2 true
        · have hpa' : ¬ p1 = p2 := fun e => hpa e.symm
          gi_wp2_with (gi_at_builtin; refine wpListIn_append_own _ rfl _ _ 61 rfl w.heap.size 59 inf _ 5 40 Tryd.underlying61 hinf hz hsz1 hby rfl (by decide) _ _ _ rfl (hrow.alloc _) ⟨W.heap.size, 0, none⟩ 1 1 [.int .i64 6, .int .i64 (p1 : Int), .int .i64 (p2 : Int), .int .i64 (p3 : Int), .int .i64 (p4 : Int)] rfl rfl (World.news_of_block (_root_.Go.heap_alloc_new W _)) (fun u hu => by simp at hu; rcases hu with rfl | rfl | rfl | rfl | rfl <;> rfl) (by unfold maxLen; omega) (by omega) (by rw [size_alloc1]; omega) ?_; intro v' w1 hown' hgrow _; obtain ⟨g', cap', rfl⟩ := ownsRow_succ hown'; obtain ⟨hb0, hN1, HEnd⟩ := HApp.out w1 g' cap' _ hown' hgrow; have y0 := (hb0 0).trans x0; have y1 := (hb0 1).trans x1; have y2 := (hb0 2).trans x2; have y3 := (hb0 3).trans x3; have hc1 : w1.cell? ⟨w.heap.size + 1, 0, none⟩ = some (.slice va (idle (qsOf pre)).length vc) := (hv.appended (by decide) hrow hB1.size (by omega) hown' hgrow).1.cell; have hf1 : w1.frozen? ⟨w.heap.size + 1, 0, none⟩ = false := (hv.appended (by decide) hrow hB1.size (by omega) hown' hgrow).1.frozen; have cn1 := bvs_cell hN1 p1 (by rw [ndL_len]; exact d8); have fn1 := bvs_frozen hN1 p1; have cn2 := bvs_cell hN1 p2 (by rw [ndL_len]; exact a8); have fn2 := bvs_frozen hN1 p2; have HE := hide HEnd; have HN1 := hide hN1; clear hb0 HEnd hN1 hgrow hown')
          refine ⟨trivial, (CallsIn.inRound l (callsIn_wide.2 (isArith_any 6 _))).mono ?_⟩
          rintro e w' ⟨rfl, hw'⟩
          obtain rfl := hw'.symm
          gi_wp2
          refine HE.out _ ?_ (fun g hg => (heap_set_other _ _ hg).trans (heap_set_other _ _ hg)) ((((Below.refl _ _).setCell (p := ⟨w.heap.size + 1, 0, none⟩) (Nat.le_succ _) _).setCell (p := ⟨w.heap.size, p1, none⟩) (Nat.le_refl _) _).setCell (p := ⟨w.heap.size, p2, none⟩) (Nat.le_refl _) _) ((KeepsOthers.setCell _ _ _).trans (KeepsOthers.setCell _ _ _))
          rw [HKe.out, HNa.out]
          exact bvs_set (bvs_set ((heap_set_other _ _ (by omega)).trans HN1.out) p1 false) p2 true
      · have hA : arB (p0 : Int) = true := by unfold arB; rw [decide_eq_true_eq]; omega
        have hk1 : ((p0 : Int) == 1) = false := by rw [beq_eq_false_iff_ne]; omega
        have HNa : Hid (ndA ⟨p0, p1, p2, p3, p4⟩ (ndL (qsOf pre)) = (((ndL (qsOf pre)).set p1 false).set p2 true).set p3 true) := by
          unfold Hid ndA arN
          rw [if_pos (decide_eq_true ⟨h2, h5⟩), if_neg (show ¬ p0 = 1 by omega)]
        have HKe := hide hkeep
        clear hkeep
        by_cases hpa : p2 = p1
        · subst hpa
          gi_wp2_with (gi_at_builtin; refine wpListIn_append_own _ rfl _ _ 61 rfl w.heap.size 59 inf _ 5 40 Tryd.underlying61 hinf hz hsz1 hby rfl (by decide) _ _ _ rfl (hrow.alloc _) ⟨W.heap.size, 0, none⟩ 1 1 [.int .i64 (p0 : Int), .int .i64 (p2 : Int), .int .i64 (p2 : Int), .int .i64 (p3 : Int), .int .i64 (p4 : Int)] rfl rfl (World.news_of_block (_root_.Go.heap_alloc_new W _)) (fun u hu => by simp at hu; rcases hu with rfl | rfl | rfl | rfl | rfl <;> rfl) (by unfold maxLen; omega) (by omega) (by rw [size_alloc1]; omega) ?_; intro v' w1 hown' hgrow _; obtain ⟨g', cap', rfl⟩ := ownsRow_succ hown'; obtain ⟨hb0, hN1, HEnd⟩ := HApp.out w1 g' cap' _ hown' hgrow; have y0 := (hb0 0).trans x0; have y1 := (hb0 1).trans x1; have y2 := (hb0 2).trans x2; have y3 := (hb0 3).trans x3; have hc1 : w1.cell? ⟨w.heap.size + 1, 0, none⟩ = some (.slice va (idle (qsOf pre)).length vc) := (hv.appended (by decide) hrow hB1.size (by omega) hown' hgrow).1.cell; have hf1 : w1.frozen? ⟨w.heap.size + 1, 0, none⟩ = false := (hv.appended (by decide) hrow hB1.size (by omega) hown' hgrow).1.frozen; have cn1 := bvs_cell hN1 p2 (by rw [ndL_len]; exact d8); have fn1 := bvs_frozen hN1 p2; have cn2 := bvs_cell hN1 p2 (by rw [ndL_len]; exact a8); have fn2 := bvs_frozen hN1 p2; have HE := hide HEnd; have HN1 := hide hN1; clear hb0 HEnd hN1 hgrow hown')
          refine ⟨trivial, (CallsIn.inRound l (callsIn_wide.2 (isArith_any (p0 : Int) _))).mono ?_⟩
          rintro e W3 ⟨rfl, hW3⟩
          have hN3 : W3.heap[w.heap.size]? = some (.cells (bvs (((ndL (qsOf pre)).set p2 false).set p2 true)) 186 (0, 0)) := by rw [hW3]; exact bvs_set (bvs_set ((heap_set_other _ _ (by omega)).trans HN1.out) p2 false) p2 true
          have z3 : W3.cell? ⟨Bx, 3, none⟩ = some (.int .i64 (p3 : Int)) := by rw [hW3]; exact (cell_heap 3 ((heap_set_other _ _ n1).trans ((heap_set_other _ _ n1).trans (heap_set_other _ _ n2)))).trans y3
          have cn3 := bvs_cell hN3 p3 (by rw [List.length_set, List.length_set, ndL_len]; exact b8)
          have fn3 := bvs_frozen hN3 p3
          have HW3 := hide hW3; have HN3 := hide hN3
          clear hW3 hN3 y0 y1 y2 y3 cn1 fn1 cn2 fn2 hc1 hf1
          gi_wp2
          refine HE.out _ ?_ (fun g hg => (heap_set_other _ _ hg).trans (by rw [HW3.out]; exact (heap_set_other _ _ hg).trans (heap_set_other _ _ hg))) (Below.setCell (p := ⟨w.heap.size, p3, none⟩) (by rw [HW3.out]; exact (((Below.refl _ _).setCell (p := ⟨w.heap.size + 1, 0, none⟩) (Nat.le_succ _) _).setCell (p := ⟨w.heap.size, p2, none⟩) (Nat.le_refl _) _).setCell (p := ⟨w.heap.size, p2, none⟩) (Nat.le_refl _) _) (Nat.le_refl _) _) ((by rw [HW3.out]; exact (KeepsOthers.setCell _ _ _).trans (KeepsOthers.setCell _ _ _) : KeepsOthers _ W3).trans (KeepsOthers.setCell _ _ _))
          rw [HKe.out, HNa.out]
          exact bvs_set HN3.out p3 true
        · have hpa' : ¬ p1 = p2 := fun e => hpa e.symm
          gi_wp2_with (gi_at_builtin; refine wpListIn_append_own _ rfl _ _ 61 rfl w.heap.size 59 inf _ 5 40 Tryd.underlying61 hinf hz hsz1 hby rfl (by decide) _ _ _ rfl (hrow.alloc _) ⟨W.heap.size, 0, none⟩ 1 1 [.int .i64 (p0 : Int), .int .i64 (p1 : Int), .int .i64 (p2 : Int), .int .i64 (p3 : Int), .int .i64 (p4 : Int)] rfl rfl (World.news_of_block (_root_.Go.heap_alloc_new W _)) (fun u hu => by simp at hu; rcases hu with rfl | rfl | rfl | rfl | rfl <;> rfl) (by unfold maxLen; omega) (by omega) (by rw [size_alloc1]; omega) ?_; intro v' w1 hown' hgrow _; obtain ⟨g', cap', rfl⟩ := ownsRow_succ hown'; obtain ⟨hb0, hN1, HEnd⟩ := HApp.out w1 g' cap' _ hown' hgrow; have y0 := (hb0 0).trans x0; have y1 := (hb0 1).trans x1; have y2 := (hb0 2).trans x2; have y3 := (hb0 3).trans x3; have hc1 : w1.cell? ⟨w.heap.size + 1, 0, none⟩ = some (.slice va (idle (qsOf pre)).length vc) := (hv.appended (by decide) hrow hB1.size (by omega) hown' hgrow).1.cell; have hf1 : w1.frozen? ⟨w.heap.size + 1, 0, none⟩ = false := (hv.appended (by decide) hrow hB1.size (by omega) hown' hgrow).1.frozen; have cn1 := bvs_cell hN1 p1 (by rw [ndL_len]; exact d8); have fn1 := bvs_frozen hN1 p1; have cn2 := bvs_cell hN1 p2 (by rw [ndL_len]; exact a8); have fn2 := bvs_frozen hN1 p2; have HE := hide HEnd; have HN1 := hide hN1; clear hb0 HEnd hN1 hgrow hown')
          refine ⟨trivial, (CallsIn.inRound l (callsIn_wide.2 (isArith_any (p0 : Int) _))).mono ?_⟩
          rintro e W3 ⟨rfl, hW3⟩
          have hN3 : W3.heap[w.heap.size]? = some (.cells (bvs (((ndL (qsOf pre)).set p1 false).set p2 true)) 186 (0, 0)) := by rw [hW3]; exact bvs_set (bvs_set ((heap_set_other _ _ (by omega)).trans HN1.out) p1 false) p2 true
          have z3 : W3.cell? ⟨Bx, 3, none⟩ = some (.int .i64 (p3 : Int)) := by rw [hW3]; exact (cell_heap 3 ((heap_set_other _ _ n1).trans ((heap_set_other _ _ n1).trans (heap_set_other _ _ n2)))).trans y3
          have cn3 := bvs_cell hN3 p3 (by rw [List.length_set, List.length_set, ndL_len]; exact b8)
          have fn3 := bvs_frozen hN3 p3
          have HW3 := hide hW3; have HN3 := hide hN3
          clear hW3 hN3 y0 y1 y2 y3 cn1 fn1 cn2 fn2 hc1 hf1
          gi_wp2
          refine HE.out _ ?_ (fun g hg => (heap_set_other _ _ hg).trans (by rw [HW3.out]; exact (heap_set_other _ _ hg).trans (heap_set_other _ _ hg))) (Below.setCell (p := ⟨w.heap.size, p3, none⟩) (by rw [HW3.out]; exact (((Below.refl _ _).setCell (p := ⟨w.heap.size + 1, 0, none⟩) (Nat.le_succ _) _).setCell (p := ⟨w.heap.size, p1, none⟩) (Nat.le_refl _) _).setCell (p := ⟨w.heap.size, p2, none⟩) (Nat.le_refl _) _) (Nat.le_refl _) _) ((by rw [HW3.out]; exact (KeepsOthers.setCell _ _ _).trans (KeepsOthers.setCell _ _ _) : KeepsOthers _ W3).trans (KeepsOthers.setCell _ _ _))
          rw [HKe.out, HNa.out]
          exact bvs_set HN3.out p3 true
  case done =>
    rintro D ys W hD rfl ⟨⟨⟨⟨v, hv, hrow, _⟩, hnd⟩, hbs⟩, hB1⟩ hK
    have hqq : qsOf (bkU ps ps.length) = ps := by rw [qsOf_bkU hw _ (Nat.le_refl _), Nat.sub_self, List.drop_zero]
    rw [hqq] at hrow
    have hc := hv.cell
    have hll : (idle ps).length ≤ 8 := Nat.le_trans (idle_len ps) hl
    obtain ⟨va, vc, rfl⟩ := owns_len hrow
    have hlr : (idle ps).reverse.length = (idle ps).length := List.length_reverse
    by_cases h0 : (idle ps).length = 0
    · rw [h0] at hc hv hrow
      have hi0 : idle ps = [] := List.length_eq_zero_iff.1 h0
      rw [hi0] at hrow
      have HI0 := hide hi0; have HRw := hide hrow
      clear h0 hlr hll hi0 hqq hrow
      gi_wp2
      refine ⟨trivial, (callsIn_wide.2 (reverse_nil va vc _)).mono ?_⟩
      rintro e w' ⟨rfl, hw'⟩
      obtain rfl := hw'.symm
      gi_wp2
      refine ⟨by simp, .inl ?_⟩
      refine ⟨_, _, rfl, run_takeDeferred hK, ?_⟩
      refine ⟨_, results_tmp rfl _ _ _, ?_⟩
      have hDw : w.heap.size ≤ D := by omega
      have hBe : Below w.heap.size w (W.putObj D (.deferred none)) := hB1.trans (belowK_b (w := w) (Nat.le_refl _) W D _ _ hDw hK rfl rfl)
      refine ⟨hBe, _, rfl, ?_⟩
      rw [HI0.out]
      exact ownsRow_putObj HRw.out _ hK rfl
    · obtain ⟨g, cap, hform, hBg, hgl⟩ := hrow.form (by omega)
      cases hform
      have hRv := reverse_any w.heap.size g vc (idle ps).reverse W (by rw [hlr]; exact hrow) (by rw [hlr]; exact hll)
      rw [List.reverse_reverse, hlr] at hRv
      have hgc : ∃ cur, W.heap[g]? = some (.cells cur 59 (0, 0)) := ownsRow_kind hrow g rfl
      obtain ⟨cur, hcur⟩ := hgc
      have nD : D ≠ g := fun e => by rw [e, hcur] at hK; cases hK
      have nB : w.heap.size + 1 ≠ g := fun e => by
        have := hv
        unfold Boxed at this
        rw [e, hcur] at this
        cases this
      have HRv := hide hRv; have HRw := hide hrow
      have hDw : w.heap.size ≤ D := by omega
      generalize hn : (idle ps).length = n at *
      have HNn := hide hn
      clear h0 hlr hll hqq hrow hRv hn hBg hgl hcur
      gi_wp2
      refine ⟨trivial, (callsIn_wide.2 HRv.out).mono ?_⟩
      rintro e w' ⟨rfl, r1, r2, r3⟩
      have hc' : w'.cell? ⟨w.heap.size + 1, 0, none⟩ = some (.slice (some ⟨g, 0, none⟩) n vc) := (cell_heap 0 (r2 _ nB)).trans hc
      have hK' := (r2 D nD).trans hK
      have HR1 := hide r1
      have hBe : Below w.heap.size w (w'.putObj D (.deferred none)) := (hB1.trans r3).trans (belowK_b (w := w) (Nat.le_refl _) w' D _ _ hDw hK' rfl rfl)
      have HBe := hide hBe
      clear r1 r2 r3 hc hK hBe
      gi_wp2
      refine ⟨by simp, .inl ?_⟩
      refine ⟨_, _, rfl, run_takeDeferred hK', ?_⟩
      refine ⟨_, results_tmp rfl _ _ _, ?_⟩
      refine ⟨HBe.out, _, rfl, ?_⟩
      rw [HNn.out]
      exact ownsRow_putObj HR1.out _ hK' rfl
  case stop =>
    rintro D c pre W _ _ h _
    exact h.elim
end Go.Proofs.YtmmflekajbeamaaDoor

namespace Go.Proofs.YtmmflekajbeamaaDoor
open Go.RowKit

/-- What a translating leaves. -/
def TrPost (s : ByteArray) (w : World) (e' : Ending) (w' : World) : Prop :=
  Below w.heap.size w w' ∧ ((blkOK s ∧ e' = .returned (.tuple #[.string (bya (planT (ownP s))), .int .i64 0])) ∨ (¬ blkOK s ∧ e' = .returned (.tuple #[.string (bya []), .int .i64 10])))
theorem TrPost.form {s : ByteArray} {w w' : World} {e : Ending} (h : TrPost s w e w') : ∃ D n, e = .returned (.tuple #[.string D, .int .i64 n]) := by
  obtain ⟨_, ⟨_, rfl⟩ | ⟨_, rfl⟩⟩ := h
  · exact ⟨_, _, rfl⟩
  · exact ⟨_, _, rfl⟩
theorem TrPost.one {s : ByteArray} {w1 w2 w1' w2' : World} {e1 e2 : Ending} (h1 : TrPost s w1 e1 w1') (h2 : TrPost s w2 e2 w2') : e1 = e2 := by
  obtain ⟨_, ⟨a, rfl⟩ | ⟨a, rfl⟩⟩ := h1 <;> obtain ⟨_, ⟨c, rfl⟩ | ⟨c, rfl⟩⟩ := h2
  all_goals first | rfl | exact absurd a c | exact absurd c a
end Go.Proofs.YtmmflekajbeamaaDoor

namespace Go.Proofs.YtmmflekajbeamaaDoor
open Go.RowKit

theorem withoutIdle_any (B : Nat) (pa : Option Addr) (pc : Nat) (ps : List PutN) (w : World) (ho : w.ownsRow B 59 5 (.slice pa ps.length pc) ps.length (putCs ps)) (hl : ps.length ≤ 8) (hw : ∀ p ∈ ps, okB p) :
    Calls Tryd.prog 100 #[.slice pa ps.length pc] w fun e' w' => Below w.heap.size w w' ∧ ∃ v, e' = .returned v ∧ w'.ownsRow w.heap.size 59 5 v (idle ps).length (putCs (idle ps)) :=
  callsIn_wide.1 (withoutIdle_in B pa pc ps w ho hl hw)

set_option maxRecDepth 100000 in
set_option maxHeartbeats 2000000 in
theorem trTranslate_any (s : ByteArray) (w : World) (ht : Tab w) (hs : s.size ≤ maxLen) :
    Calls Tryd.prog 58 #[.string s] w (TrPost s w) := by
  have z9 := zero9
  have HRd := hide (blkRead_any s w ht hs)
  have HTb := hide ht
  have hpos := ht.pos
  clear ht
  go_enter Tryd.func58, Tryd.ntmps58
  go_wp2_with fail
  refine (unhide HRd).mono ?_
  rintro e w1 ⟨hb1, ⟨hok, rfl⟩ | ⟨hno, rfl⟩⟩
  · have HB1 := hide hb1; have HOk := hide hok
    have hz1 := hb1.size
    have h8 : s.size / 4 ≤ 8 := by have := hok.2.1; omega
    have hzl := wdZ_len (ws := blkL s (s.size / 4)) (by rw [blkL_len]; exact h8)
    obtain ⟨W3, hW3⟩ : ∃ W3, W3 = w1.alloc (.cells (S (wdZ (blkL s (s.size / 4)))) 127) := ⟨_, rfl⟩
    have HW := hide hW3
    have r3 : RowI W3 w1.heap.size 127 (wdZ (blkL s (s.size / 4))) := by unfold RowI; rw [hW3, _root_.Go.heap_alloc_new]
    have h3b : Below w.heap.size w W3 := by rw [hW3]; exact hb1.alloc hz1 _
    have H3B := hide h3b
    have rI := r3.isRow 9 hzl
    have rD := r3.rowD
    have h3z : w.heap.size ≤ W3.heap.size := h3b.size
    have HPl := hide (plain_list (blkL s (s.size / 4)) W3 (HTb.out.below hpos h3b) (by rw [blkL_len]; exact h8) (blkL_bd s _))
    clear hb1 hok HRd hW3 h3b r3
    go_wp2_with (first | (refine wpList_storeR size9 rfl _ _ rfl w1.heap.size rfl (wdZ (blkL s (s.size / 4))) rfl hzl (by rw [isRowB_alloc_at _ _ _ _ _ rfl]; rfl) _ (setRow_alloc_at _ _ _ _ _ rfl) ?_) | (refine wpList_loadR rfl Tryd.underlying127 size9 rfl _ rfl w1.heap.size rfl (by rw [← HW.out]; exact rI) (S (wdZ (blkL s (s.size / 4)))) (by rw [← HW.out]; exact rD) ?_))
    rw [← HW.out]
    refine (unhide HPl).mono ?_
    rintro e w4 ⟨hb4, fv, rfl, hfo⟩
    rw [plN_nPl HOk.out, blkL_take s (nPl_le s)] at hfo
    have HOf := hide (ofWords_any _ fv (blkL s (nPl s)) w4 (own_take hfo (blkL_len s _).symm) (by rw [blkL_len]; exact Nat.le_trans (nPl_le s) h8))
    have HB4 : Hid (Below w.heap.size w w4) := H3B.out.trans (hb4.mono h3z)
    have hz4 := hb4.size
    clear hb4 hfo HPl rI rD
    go_wp2_with fail
    refine (unhide HOf).mono ?_
    rintro e w5 ⟨hb5, pv1, rfl, hpo1⟩
    rw [pwL_blk, blkL_len, ← nPl_len] at hpo1
    have hn8 : (blkPuts s).length ≤ 8 := by rw [nPl_len]; exact Nat.le_trans (nPl_le s) h8
    have HK := hide (withKnown_any _ pv1 (blkPuts s) w5 hpo1 hn8 (blkPuts_okB HOk.out))
    have HB5 : Hid (Below w.heap.size w w5) := HB4.out.trans (hb5.mono (by omega))
    have hz5 := hb5.size
    clear hb5 hpo1 HOf
    go_wp2_with fail
    refine (unhide HK).mono ?_
    rintro e w6 ⟨hb6, pv2, rfl, hpo2⟩
    obtain ⟨hkk, hkl⟩ := wKn_ok (blkPuts_okB HOk.out)
    obtain ⟨pa, pc, hpv2⟩ := owns_len hpo2
    subst hpv2
    have HWi := hide (withoutIdle_any _ pa pc (wKn (blkPuts s)) w6 hpo2 (by rw [hkl]; exact hn8) hkk)
    have HB6 : Hid (Below w.heap.size w w6) := HB5.out.trans (hb6.mono (by omega))
    have hz6 := hb6.size
    clear hb6 hpo2 HK hkk hkl hn8
    go_wp2_with fail
    refine (unhide HWi).mono ?_
    rintro e w7 ⟨hb7, pv3, rfl, hpo3⟩
    obtain ⟨hoo, hol⟩ := ownP_ok HOk.out
    have HTx := hide (planText_any _ pv3 (ownP s) w7 hpo3 (Nat.le_trans hol (Nat.le_trans (nPl_le s) h8)) hoo)
    have HB7 : Hid (Below w.heap.size w w7) := HB6.out.trans (hb7.mono (by omega))
    have hz7 := hb7.size
    clear hb7 hpo3 HWi hoo hol
    go_wp2_with fail
    refine (unhide HTx).mono ?_
    rintro e w8 ⟨rfl, hb8⟩
    have HB8 : Hid (Below w.heap.size w w8) := HB7.out.trans (hb8.mono (by omega))
    clear hb8 HTx
    go_wp2_with fail
    go_ret2
    exact ⟨HB8.out, .inl ⟨HOk.out, rfl⟩⟩
  · have HB1 := hide hb1; have HNo := hide hno
    have hz1 := hb1.size
    clear hb1 hno HRd
    go_wp2_with (refine wpList_storeR size9 rfl _ _ rfl w1.heap.size rfl (wdZ []) rfl rfl (by rw [isRowB_alloc_at _ _ _ _ _ rfl]; rfl) _ (setRow_alloc_at _ _ _ _ _ rfl) ?_)
    go_ret2
    exact ⟨HB1.out.alloc hz1 _, .inr ⟨HNo.out, rfl⟩⟩

set_option maxRecDepth 100000 in
theorem cribTranslate_any (s : ByteArray) (w : World) (ht : Tab w) (hs : s.size ≤ maxLen) :
    Calls Tryd.prog 26 #[.string s] w (TrPost s w) := by
  have HC := hide (trTranslate_any s w ht hs)
  clear ht
  go_enter Tryd.func26, Tryd.ntmps26
  go_wp2_with fail
  refine (unhide HC).mono ?_
  intro e w1 hpost
  obtain ⟨D, n, rfl⟩ := hpost.form
  have HP := hide hpost
  clear hpost
  go_wp2_with fail
  go_ret2
  exact HP.out
end Go.Proofs.YtmmflekajbeamaaDoor
