/-
  Translates: puts with what is known laid in (translator.withKnown).
  Translates: slices.Reverse over puts.
-/
import Derived.Test.YtmmflekajbeamaaDoorR16
import Derived.Test.YtmmflekajbeamaaDoorR05
import Derived.Deep.CutRange
namespace Go.Proofs.YtmmflekajbeamaaDoor
open Go.RowKit

theorem fold_snoc {ps : List PutN} {k : Nat} {p : PutN} (h : ps[k]? = some p) : (ps.take (k + 1)).foldl knS kn0 = knS ((ps.take k).foldl knS kn0) p := foldl_take_succ _ _ _ _ _ h
theorem arB_arN (k : Nat) : arB (k : Int) = arN k := by
  unfold arB arN
  rw [Bool.eq_iff_iff, decide_eq_true_eq, decide_eq_true_eq]
  omega

theorem size59 : (Tryd.prog.info? 59).map (·.size) = some 5 := by kernel_rfl
theorem putV_S (q : PutN) : putV q = S (putZ q) := rfl
theorem wpList_storeM {ops : Array Oper} {rest : List Oper} {op : Oper} {a : Act} {w : World} {Q : Exit → Act → World → Prop} (hgd : op.guard = none) (x y : Operand) (ho : op.op = .store 59 x y)
    (b o : Nat) (q : PutN) (hx : a.eval x = .pointer (some ⟨b, o, none⟩)) (hy : a.eval y = .agg (putV q))
    (ht : w.there b o 5) (w' : World) (hw : w.setCells b o (putV q).toList = w') (h : wpList Tryd.prog ops Q rest (a.put op.dst undef) w') : wpList Tryd.prog ops Q (op :: rest) a w := by
  subst hw
  exact wpList_store_mid hgd 59 x y ho b o (putV q) hx hy ht size59 (by rw [putV_S]; exact S_one _) h
def set5 (z : List Int) (o : Nat) (q : PutN) : List Int := ((((z.set o (q.kind : Int)).set (o + 1) (q.d : Int)).set (o + 1 + 1) (q.a : Int)).set (o + 1 + 1 + 1) (q.b : Int)).set (o + 1 + 1 + 1 + 1) (q.k : Int)
theorem set5_app (a z : List Int) (o : Nat) (q : PutN) : set5 (a ++ z) (o + a.length) q = a ++ set5 z o q := by
  unfold set5
  rw [List.set_append_right _ _ (by omega), List.set_append_right _ _ (by omega), List.set_append_right _ _ (by omega), List.set_append_right _ _ (by omega), List.set_append_right _ _ (by omega)]
  simp only [Nat.add_sub_cancel]
  rw [show o + a.length + 1 - a.length = o + 1 by omega, show o + a.length + 1 + 1 - a.length = o + 1 + 1 by omega, show o + a.length + 1 + 1 + 1 - a.length = o + 1 + 1 + 1 by omega, show o + a.length + 1 + 1 + 1 + 1 - a.length = o + 1 + 1 + 1 + 1 by omega]
theorem lastZ_set (q : PutN) : ∀ (l : List PutN) (d : Nat), d < l.length → set5 (lastZ l) (d * 5) q = lastZ (l.set d q)
  | [], d, h => by simp at h
  | p :: l, 0, _ => rfl
  | p :: l, d + 1, h => by
    have e1 : lastZ (p :: l) = putZ p ++ lastZ l := by simp [lastZ]
    have e2 : lastZ ((p :: l).set (d + 1) q) = putZ p ++ lastZ (l.set d q) := by simp [lastZ]
    rw [e1, e2, show (d + 1) * 5 = d * 5 + (putZ p).length by rw [Nat.succ_mul]; rfl, set5_app, lastZ_set q l d (by simpa using h)]
theorem setCells5 (w : World) (b o : Nat) (q : PutN) : w.setCells b o (putV q).toList = ((((w.setCell ⟨b, o, none⟩ (.int .i64 (q.kind : Int))).setCell ⟨b, o + 1, none⟩ (.int .i64 (q.d : Int))).setCell ⟨b, o + 1 + 1, none⟩ (.int .i64 (q.a : Int))).setCell ⟨b, o + 1 + 1 + 1, none⟩ (.int .i64 (q.b : Int))).setCell ⟨b, o + 1 + 1 + 1 + 1, none⟩ (.int .i64 (q.k : Int)) := rfl
theorem setCells5_other (w : World) (b o : Nat) (q : PutN) (g : Nat) (h : g ≠ b) : (w.setCells b o (putV q).toList).heap[g]? = w.heap[g]? := by
  rw [setCells5]
  exact (heap_set_other _ _ h).trans ((heap_set_other _ _ h).trans ((heap_set_other _ _ h).trans ((heap_set_other _ _ h).trans (heap_set_other _ _ h))))
theorem setCells5_row {w : World} {b : Nat} {t : TypeId} {z : List Int} (h : RowI w b t z) (o : Nat) (q : PutN) : RowI (w.setCells b o (putV q).toList) b t (set5 z o q) := by
  rw [setCells5]
  exact ((((h.set o _).set (o + 1) _).set (o + 1 + 1) _).set (o + 1 + 1 + 1) _).set (o + 1 + 1 + 1 + 1) _
theorem RowI.there {w : World} {b : Nat} {t : TypeId} {z : List Int} (h : RowI w b t z) (o n : Nat) (ho : o + n ≤ z.length) : w.there b o n := fun j hj =>
  ⟨by rw [h.cell _ (by omega)]; rfl, h.frozen _⟩
theorem setCells5_below {w0 w : World} {B b : Nat} (h : Below B w0 w) (hb : B ≤ b) (o : Nat) (q : PutN) : Below B w0 (w.setCells b o (putV q).toList) := by
  rw [setCells5]
  exact ((((h.setCell (p := ⟨b, o, none⟩) hb _).setCell (p := ⟨b, o + 1, none⟩) hb _).setCell (p := ⟨b, o + 1 + 1, none⟩) hb _).setCell (p := ⟨b, o + 1 + 1 + 1, none⟩) hb _).setCell (p := ⟨b, o + 1 + 1 + 1 + 1, none⟩) hb _
/-- The last put on a register is laid down. -/
theorem kn_store {N : Nat} {wr wc : World} {l : List PutN} {d k : Nat} {q : PutN} {v : Value} {xs : List Value} (hrow : RowI wr N 190 (lastZ l)) (h8 : l.length = 8) (hd : d < 8) (hbc : Below wr.heap.size wr wc) (hp : RowI wc wr.heap.size 59 (putZ q)) (hown : wr.ownsRow (N + 1) 59 5 v k xs) :
    wc.there N (d * 5) 5 ∧ ∃ wS, wc.setCells N (d * 5) (putV q).toList = wS ∧ RowI wS N 190 (lastZ (l.set d q)) ∧ Below N wc wS ∧ RowI wS wr.heap.size 59 (putZ q) ∧ wS.ownsRow (N + 1) 59 5 v k xs ∧ wr.heap.size < wS.heap.size := by
  have hN := hrow.lt
  have hrc : RowI wc N 190 (lastZ l) := hrow.keep (hbc.block _ hN)
  have hl : (lastZ l).length = 40 := by rw [lastZ_len, h8]
  have hp' : RowI (wc.setCells N (d * 5) (putV q).toList) wr.heap.size 59 (putZ q) := hp.keep (setCells5_other _ _ _ _ _ (by omega))
  refine ⟨hrc.there _ _ (by omega), _, rfl, ?_, setCells5_below (Below.refl _ _) (Nat.le_refl _) _ _, hp', ?_, hp'.lt⟩
  · rw [← lastZ_set q l d (by omega)]
    exact setCells5_row hrc _ _
  · refine ownsRow_keep hown (fun g hg => ?_)
    have := row_lt hown g hg
    exact (setCells5_other _ _ _ _ _ (by omega)).trans (hbc.block _ this.2)

set_option maxRecDepth 100000 in
set_option maxHeartbeats 4000000 in
theorem withKnown_any (B : Nat) (pv : Value) (ps : List PutN) (w : World) (ho : w.ownsRow B 59 5 pv ps.length (putCs ps)) (hl : ps.length ≤ 8) (hw : ∀ p ∈ ps, okB p) :
    Calls Tryd.prog 101 #[pv] w fun e' w' => Below w.heap.size w w' ∧ ∃ v, e' = .returned v ∧ w'.ownsRow w.heap.size 59 5 v (wKn ps).length (putCs (wKn ps)) := by
  obtain ⟨inf, hinf, hz, hsz1, hby⟩ := infoPut
  have HInf := hide hinf; have HZ := hide hz; have HSz := hide hsz1; have HBy := hide hby
  clear hinf hz hsz1 hby
  obtain ⟨fa', fc', rfl⟩ := owns_len ho
  have HF := hide ho; have HW := hide hw
  have hl' : (ps.length : Int) ≤ 8 := by omega
  have z190 := zero190
  have HRr : Hid (RowI (w.alloc (.cells (S (lastZ (List.replicate 8 zPut))) 190)) w.heap.size 190 (lastZ kn0.1)) := _root_.Go.heap_alloc_new w _
  have hb1 := hide ((Below.refl w.heap.size w).alloc (Nat.le_refl _) (.cells (S (lastZ (List.replicate 8 zPut))) 190))
  clear ho hw
  go_enter Tryd.func101, Tryd.ntmps101
  go_wp2_with fail
  go_loopw [4, 11] (fun v i wr => ∃ (k : Nat) (st : List PutN × List PutN), k ≤ ps.length ∧ i = .int .i64 k ∧ Hid (st = (ps.take k).foldl knS kn0) ∧ wr.ownsRow (w.heap.size + 1) 59 5 v k (putCs st.2) ∧ RowI wr w.heap.size 190 (lastZ st.1) ∧ Below w.heap.size w wr) (fun _ i _ => ps.length - (intOf i).toNat)
  case atStart => exact ⟨0, kn0, Nat.zero_le _, rfl, rfl, World.ownsRow_nil _ _ _ _, HRr.out, hb1.out⟩
  case round =>
    obtain ⟨k, st, hk, rfl, HSt, hown, hrow, hbl⟩ := hrel
    obtain ⟨va, vc, hv⟩ := owns_len hown
    subst hv
    have HO := hide hown; have HBl := hide hbl; have HRw := hide hrow
    have hwz : w.heap.size < wr.heap.size := hrow.lt
    have hkn := KnOK.fold HW.out k hk
    rw [← HSt.out] at hkn
    by_cases hlt : k < ps.length
    · have hlt' : (k : Int) < (ps.length : Int) := by omega
      obtain ⟨g, cap, hform, _, hgl⟩ := HF.out.form (by omega)
      cases hform
      have hx : ps[k]? = some ps[k] := List.getElem?_eq_getElem hlt
      have hok := HW.out ps[k] (List.getElem_mem _)
      obtain ⟨x0, x1, x2, x3, x4⟩ := put_cells (own_grow HF.out (hbl.mono (Nat.le_refl _))) k ps[k] hx
      have HNx : Hid (knS st ps[k] = (ps.take (k + 1)).foldl knS kn0) := by unfold Hid; rw [fold_snoc hx, ← HSt.out]
      generalize ps[k] = p at *
      have hz40 : (lastZ st.1).length = 40 := by rw [lastZ_len, hkn.l8]
      have hla : ∀ j, j < 5 → wr.cell? ⟨w.heap.size, p.a * 5 + j, none⟩ = some (.int .i64 ((putZ (st.1.getD p.a zPut)).getD j 0)) := fun j hj => by
        rw [hrow.cell _ (by rw [hz40]; have := hok.2.2.2.1; omega), lastZ_get _ _ (by rw [hkn.l8]; exact hok.2.2.2.1) j hj]
      have hlb : ∀ j, j < 5 → wr.cell? ⟨w.heap.size, p.b * 5 + j, none⟩ = some (.int .i64 ((putZ (st.1.getD p.b zPut)).getD j 0)) := fun j hj => by
        rw [hrow.cell _ (by rw [hz40]; have := hok.2.2.2.2.1; omega), lastZ_get _ _ (by rw [hkn.l8]; exact hok.2.2.2.2.1) j hj]
      have hld : ∀ j, j < 5 → ∃ y, wr.cell? ⟨w.heap.size, p.d * 5 + j, none⟩ = some y := fun j hj => ⟨_, hrow.cell _ (by rw [hz40]; have := hok.2.2.1; omega)⟩
      have hKn : knS st p = (st.1.set p.d (knP st.1 p), st.2 ++ [knP st.1 p]) := rfl
      rw [hKn] at HNx
      have hKp : knP st.1 p = if arN p.kind = true ∧ (st.1.getD p.a zPut).kind = 1 ∧ (st.1.getD p.b zPut).kind = 1 then ⟨1, p.d, 0, 0, (wk p.kind (st.1.getD p.a zPut).k (st.1.getD p.b zPut).k).toNat⟩ else p := rfl
      have ea0 : wr.cell? ⟨w.heap.size, p.a * 5, none⟩ = _ := hla 0 (by decide)
      have ea1 : wr.cell? ⟨w.heap.size, p.a * 5 + 1, none⟩ = _ := hla 1 (by decide)
      have ea2 : wr.cell? ⟨w.heap.size, p.a * 5 + 1 + 1, none⟩ = _ := hla 2 (by decide)
      have ea3 : wr.cell? ⟨w.heap.size, p.a * 5 + 1 + 1 + 1, none⟩ = _ := hla 3 (by decide)
      have ea4 : wr.cell? ⟨w.heap.size, p.a * 5 + 1 + 1 + 1 + 1, none⟩ = _ := hla 4 (by decide)
      have eb0 : wr.cell? ⟨w.heap.size, p.b * 5, none⟩ = _ := hlb 0 (by decide)
      have eb1 : wr.cell? ⟨w.heap.size, p.b * 5 + 1, none⟩ = _ := hlb 1 (by decide)
      have eb2 : wr.cell? ⟨w.heap.size, p.b * 5 + 1 + 1, none⟩ = _ := hlb 2 (by decide)
      have eb3 : wr.cell? ⟨w.heap.size, p.b * 5 + 1 + 1 + 1, none⟩ = _ := hlb 3 (by decide)
      have eb4 : wr.cell? ⟨w.heap.size, p.b * 5 + 1 + 1 + 1 + 1, none⟩ = _ := hlb 4 (by decide)
      simp only [putZ, List.getD_cons_zero, List.getD_cons_succ] at ea0 ea1 ea2 ea3 ea4 eb0 eb1 eb2 eb3 eb4
      have HXb : Hid ((st.1.getD p.a zPut).k < 4294967296) := hkn.bd _ (by rw [List.getD_eq_getElem?_getD, List.getElem?_eq_getElem (by rw [hkn.l8]; exact hok.2.2.2.1)]; exact List.getElem_mem _)
      have HYb : Hid ((st.1.getD p.b zPut).k < 4294967296) := hkn.bd _ (by rw [List.getD_eq_getElem?_getD, List.getElem?_eq_getElem (by rw [hkn.l8]; exact hok.2.2.2.2.1)]; exact List.getElem_mem _)
      generalize st.1.getD p.a zPut = X at *
      generalize st.1.getD p.b zPut = Y at *
      obtain ⟨p0, p1, p2, p3, p4⟩ := p
      obtain ⟨q1, q2, q3, q4, q5, q6, _⟩ := hok
      simp only at q1 q2 q3 q4 q5 q6 x0 x1 x2 x3 x4 ea0 ea1 ea2 ea3 ea4 eb0 eb1 eb2 eb3 eb4 hKp
      obtain ⟨X0, X1, X2, X3, X4⟩ := X
      obtain ⟨Y0, Y1, Y2, Y3, Y4⟩ := Y
      simp only at ea0 ea1 ea2 ea3 ea4 eb0 eb1 eb2 eb3 eb4 hKp
      have q3' : (p2 : Int) < 8 := by omega
      have q4' : (p3 : Int) < 8 := by omega
      have q5' : (p1 : Int) < 8 := by omega
      clear hown hbl hrow hx hla hlb
      obtain ⟨W, hW⟩ : ∃ W, W = wr.alloc (.cells #[.int .i64 (p0 : Int), .int .i64 (p1 : Int), .int .i64 (p2 : Int), .int .i64 (p3 : Int), .int .i64 (p4 : Int)] 59) := ⟨_, rfl⟩
      have hzW : W.heap.size = wr.heap.size + 1 := by rw [hW, size_alloc1]
      have hbW : Below wr.heap.size wr W := by rw [hW]; exact (Below.refl _ _).alloc (Nat.le_refl _) _
      have hpb : ∀ j x, #[Value.int .i64 (p0 : Int), .int .i64 (p1 : Int), .int .i64 (p2 : Int), .int .i64 (p3 : Int), .int .i64 (p4 : Int)][j]? = some x → W.cell? ⟨wr.heap.size, j, none⟩ = some x := fun j x hj => by rw [hW, World.cell?_alloc_at (hn := rfl)]; exact hj
      have HPb : Hid (RowI W wr.heap.size 59 (putZ ⟨p0, p1, p2, p3, p4⟩)) := by unfold Hid RowI; rw [hW, _root_.Go.heap_alloc_new]; rfl
      have d0 := hpb 0 _ rfl; have d1 := hpb 1 _ rfl; have d2 := hpb 2 _ rfl; have d3 := hpb 3 _ rfl; have d4 := hpb 4 _ rfl
      have ea0 := (below_cell' hbW w.heap.size _ hwz).trans ea0
      have ea1 := (below_cell' hbW w.heap.size _ hwz).trans ea1
      have ea2 := (below_cell' hbW w.heap.size _ hwz).trans ea2
      have ea3 := (below_cell' hbW w.heap.size _ hwz).trans ea3
      have ea4 := (below_cell' hbW w.heap.size _ hwz).trans ea4
      have eb0 := (below_cell' hbW w.heap.size _ hwz).trans eb0
      have eb1 := (below_cell' hbW w.heap.size _ hwz).trans eb1
      have eb2 := (below_cell' hbW w.heap.size _ hwz).trans eb2
      have eb3 := (below_cell' hbW w.heap.size _ hwz).trans eb3
      have eb4 := (below_cell' hbW w.heap.size _ hwz).trans eb4
      have n1 := World.new_ne W _ ea0
      have n2 := World.new_ne W _ d0
      have HWb := hide hbW; have HWe := hide hW; have hld' := hide hld
      clear hbW hpb hld hKn hW hz40
      have HTwo : Hid (∀ a b, ((W.alloc a).alloc b).drew.heap[wr.heap.size + 1]? = some a ∧ ((W.alloc a).alloc b).drew.heap[wr.heap.size + 1 + 1]? = some b ∧ Below W.heap.size W ((W.alloc a).alloc b).drew) := fun a b => by
        refine ⟨?_, ?_, (((Below.refl _ _).alloc (Nat.le_refl _) _).alloc (by rw [size_alloc1]; omega) _).drew⟩
        · show ((W.alloc a).alloc b).heap[wr.heap.size + 1]? = _
          rw [Below.heap_alloc _ _ _ (by rw [size_alloc1]; omega), ← hzW, _root_.Go.heap_alloc_new]
        · show ((W.alloc a).alloc b).heap[wr.heap.size + 1 + 1]? = _
          rw [← hzW, ← size_alloc1 W a, _root_.Go.heap_alloc_new]
      have HKp := hide hKp
      clear hKp
      go_upto_region 6 with fail
      rw [← HWe.out]
      go_cut [7, 8] from 15 to 54 (fun x y wx => ∃ bX bY : Nat, x = .pointer (some ⟨bX, 0, none⟩) ∧ y = .pointer (some ⟨bY, 0, none⟩) ∧ Hid (wr.heap.size < bX ∧ wr.heap.size < bY ∧ wx.heap[bX]? = some (.cells #[.int .i64 (X0 : Int), .int .i64 (X1 : Int), .int .i64 (X2 : Int), .int .i64 (X3 : Int), .int .i64 (X4 : Int)] 59) ∧ wx.heap[bY]? = some (.cells #[.int .i64 (Y0 : Int), .int .i64 (Y1 : Int), .int .i64 (Y2 : Int), .int .i64 (Y3 : Int), .int .i64 (Y4 : Int)] 59) ∧ Below W.heap.size W wx))
      case first =>
        go_region_held3 (fun w' => w'.cell? ⟨wr.heap.size, 2, none⟩ = some (.int .i64 (p2 : Int)) ∧ w'.cell? ⟨wr.heap.size, 3, none⟩ = some (.int .i64 (p3 : Int)) ∧ w'.cell? ⟨w.heap.size, p2 * 5, none⟩ = some (.int .i64 (X0 : Int)) ∧ w'.cell? ⟨w.heap.size, p2 * 5 + 1, none⟩ = some (.int .i64 (X1 : Int)) ∧ w'.cell? ⟨w.heap.size, p2 * 5 + 1 + 1, none⟩ = some (.int .i64 (X2 : Int)) ∧ w'.cell? ⟨w.heap.size, p2 * 5 + 1 + 1 + 1, none⟩ = some (.int .i64 (X3 : Int)) ∧ w'.cell? ⟨w.heap.size, p2 * 5 + 1 + 1 + 1 + 1, none⟩ = some (.int .i64 (X4 : Int)) ∧ w'.cell? ⟨w.heap.size, p3 * 5, none⟩ = some (.int .i64 (Y0 : Int)) ∧ w'.cell? ⟨w.heap.size, p3 * 5 + 1, none⟩ = some (.int .i64 (Y1 : Int)) ∧ w'.cell? ⟨w.heap.size, p3 * 5 + 1 + 1, none⟩ = some (.int .i64 (Y2 : Int)) ∧ w'.cell? ⟨w.heap.size, p3 * 5 + 1 + 1 + 1, none⟩ = some (.int .i64 (Y3 : Int)) ∧ w'.cell? ⟨w.heap.size, p3 * 5 + 1 + 1 + 1 + 1, none⟩ = some (.int .i64 (Y4 : Int))) (go_keep) (fail)
        all_goals
          go_wp2_with fail
          go_meet
          first
          | exact ⟨_, _, rfl, rfl, by omega, by omega, (HTwo.out _ _).1, (HTwo.out _ _).2.1, (HTwo.out _ _).2.2⟩
          | exact ⟨_, _, rfl, rfl, by omega, by omega, (HTwo.out _ _).2.1, (HTwo.out _ _).1, (HTwo.out _ _).2.2⟩
      case rest =>
      obtain ⟨bX, bY, rfl, rfl, HC⟩ := hcut
      obtain ⟨lX, lY, gX, gY, hbc⟩ := HC.out
      have xc := fun j => cell_row gX j
      have yc := fun j => cell_row gY j
      have xx0 := xc 0; have xx4 := xc 4; have yy0 := yc 0; have yy4 := yc 4
      simp only [List.getElem?_toArray, List.getElem?_cons_zero, List.getElem?_cons_succ] at xx0 xx4 yy0 yy4
      have d0 := (below_cell' hbc wr.heap.size 0 (by omega)).trans d0
      have d1 := (below_cell' hbc wr.heap.size 1 (by omega)).trans d1
      have d2 := (below_cell' hbc wr.heap.size 2 (by omega)).trans d2
      have d3 := (below_cell' hbc wr.heap.size 3 (by omega)).trans d3
      have d4 := (below_cell' hbc wr.heap.size 4 (by omega)).trans d4
      have HAr := hide (fun w' => isArith_any (p0 : Int) w')
      have HBc := hide hbc
      clear xc yc gX gY hbc
      rw [arB_arN] at HAr
      by_cases hkk : arN p0 = true ∧ X0 = 1 ∧ Y0 = 1
      · obtain ⟨h1, rfl, rfl⟩ := hkk
        rw [if_pos ⟨h1, rfl, rfl⟩] at HKp
        rw [h1] at HAr
        have hx4 : X4 < 4294967296 := HXb.out
        have hy4 : Y4 < 4294967296 := HYb.out
        have hr := fun w' => reckon_any p0 X4 Y4 w' (by omega) (by omega) (by omega) (by omega) (by unfold arN at h1; rw [decide_eq_true_eq] at h1; omega) (by unfold arN at h1; rw [decide_eq_true_eq] at h1; omega)
        have hwb := wk_bd p0 X4 Y4 (by omega) (by omega) (by omega) (by omega)
        obtain ⟨c, hc⟩ := Int.eq_ofNat_of_zero_le hwb.1
        rw [hc] at hr HKp
        rw [Int.toNat_natCast] at HKp
        have HRk := hide hr
        clear hr hwb hc
        go_wp2_with fail
        refine (unhide HAr _).mono ?_
        rintro e w' ⟨rfl, hw'⟩
        obtain rfl := hw'.symm
        go_wp2_with fail
        refine held_tail 8 2 (fun w' => w'.cell? ⟨wr.heap.size, 0, none⟩ = some (.int .i64 (p0 : Int)) ∧ w'.cell? ⟨wr.heap.size, 1, none⟩ = some (.int .i64 (p1 : Int)) ∧ w'.cell? ⟨bX, 4, none⟩ = some (.int .i64 (X4 : Int)) ∧ w'.cell? ⟨bY, 4, none⟩ = some (.int .i64 (Y4 : Int))) (by kernel_rfl) (by kernel_rfl) (fun d _ _ _ _ h => by cases d <;> exact h) ⟨d0, d1, xx4, yy4⟩ ?_
        simp only [List.take_succ_cons, List.take_zero, List.drop_succ_cons, List.drop_zero]
        iterate 8
          refine wpTake_step ?_ rfl ?_ ?_
          rotate_left
          · rintro w' ⟨d0, d1, d2, d3⟩
            go_simp
            rfl
          go_simp
        refine wpTake_nil ?_
        refine wpTail_step rfl (fun K hK => ?_)
        go_simp
        refine (unhide HRk _).mono ?_
        rintro e w' ⟨rfl, hw'⟩
        obtain rfl := hw'.symm
        go_simp
        refine hK _ _ ⟨d0, d1, xx4, yy4⟩ ?_
        clear hK K
        refine wpTail_step rfl (fun K hK => ?_)
        go_simp
        refine hK _ _ ⟨d0, d1, xx4, yy4⟩ ?_
        clear hK K
        unfold wpTailS
        obtain ⟨wD, hwD⟩ : ∃ wD, wc.drew.setCells wr.heap.size 0 (putV ⟨1, p1, 0, 0, c⟩).toList = wD := ⟨_, rfl⟩
        have HwD := hide hwD
        have hpc : RowI wc.drew wr.heap.size 59 (putZ ⟨p0, p1, p2, p3, p4⟩) := HPb.out.keep (HBc.out.block _ (by omega))
        have HDt : Hid (wc.drew.there wr.heap.size 0 5) := hpc.there 0 5 (by simp [putZ])
        have HDp : Hid (RowI wD wr.heap.size 59 (putZ ⟨1, p1, 0, 0, c⟩)) := by unfold Hid; rw [← hwD]; exact setCells5_row hpc 0 _
        have HDb : Hid (Below wr.heap.size wr wD) := by unfold Hid; rw [← hwD]; exact setCells5_below ((HWb.out.trans (HBc.out.mono (by omega))).drew) (Nat.le_refl _) 0 _
        clear hwD hpc d0 d1 d2 d3 d4 xx0 xx4 yy0 yy4
        have d0 := HDp.out.cell 0 (by simp [putZ]); have d1 := HDp.out.cell 1 (by simp [putZ]); have d2 := HDp.out.cell 2 (by simp [putZ]); have d3 := HDp.out.cell 3 (by simp [putZ]); have d4 := HDp.out.cell 4 (by simp [putZ])
        simp only [gz, putZ, List.getD_cons_zero, List.getD_cons_succ] at d0 d1 d2 d3 d4
        go_upto_region 9 with (refine wpList_storeM rfl _ _ rfl wr.heap.size 0 ⟨1, p1, 0, 0, c⟩ rfl rfl HDt.out wD HwD.out ?_)
        have hKS := kn_store (d := p1) (q := ⟨1, p1, 0, 0, c⟩) HRw.out hkn.l8 q3 HDb.out HDp.out HO.out
        obtain ⟨ht5, wS, hwS, r1, b1, r2, o1, l1⟩ := hKS
        have s0 := r2.cell 0 (by simp [putZ]); have s1 := r2.cell 1 (by simp [putZ]); have s2 := r2.cell 2 (by simp [putZ]); have s3 := r2.cell 3 (by simp [putZ]); have s4 := r2.cell 4 (by simp [putZ])
        simp only [gz, putZ, List.getD_cons_zero, List.getD_cons_succ] at s0 s1 s2 s3 s4
        have HT5 := hide ht5; have HwS := hide hwS; have HR1 := hide r1; have HO1 := hide o1
        have HB1 : Hid (Below w.heap.size w wS) := (HBl.out.trans (HDb.out.mono (by omega))).trans b1
        clear ht5 hwS r1 b1 r2 o1
        go_wp2_with (first | (refine wpList_storeM rfl _ _ rfl w.heap.size (p1 * 5) ⟨1, p1, 0, 0, c⟩ rfl rfl HT5.out wS HwS.out ?_) | (at_builtin; refine wpList_append_lies _ rfl _ _ 61 rfl (w.heap.size + 1) 59 inf _ 5 40 Tryd.underlying61 HInf.out HZ.out HSz.out HBy.out rfl (by decide) (.slice va k vc) k (putCs st.2) rfl (HO1.out.alloc _) ⟨wS.heap.size, 0, none⟩ 1 1 [.int .i64 1, .int .i64 (p1 : Int), .int .i64 0, .int .i64 0, .int .i64 (c : Int)] rfl rfl (World.news_of_block (_root_.Go.heap_alloc_new wS _)) (fun u hu => by simp at hu; rcases hu with rfl | rfl | rfl | rfl | rfl <;> rfl) (by decide) (by unfold maxLen; omega) (by omega) (by rw [size_alloc1]; omega) (wS.heap.size + 1) (by rw [size_alloc1]) ?_; intro g2' cap2 w3 hown2 hgr2 hat2 hlt2; have HO3 := hide hown2; have HGr := hide hgr2; clear hown2 hgr2 hat2))
        refine ⟨⟨k + 1, (st.1.set p1 ⟨1, p1, 0, 0, c⟩, st.2 ++ [⟨1, p1, 0, 0, c⟩]), by omega, by go_num, ?_, ?_, ?_, ?_⟩, by simp [intOf]; omega⟩
        · exact (by rw [HKp.out] at HNx; exact HNx.out)
        · rw [putCs_snoc]
          exact HO3.out
        · refine HR1.out.keep ((HGr.out.block _ (by rw [size_alloc1]; have := HR1.out.lt; omega) (fun e => ?_)).trans (Below.heap_alloc wS _ _ HR1.out.lt))
          have := (row_lt HO1.out _ e.symm).1
          omega
        · exact (HB1.out.alloc (by have := HR1.out.lt; omega) _).grown HGr.out (by rw [size_alloc1]; have := HR1.out.lt; omega) (fun q hq => by have := (row_lt HO1.out q hq).1; omega)
      · rw [if_neg hkk] at HKp
        have hways : arN p0 = false ∨ (arN p0 = true ∧ ((X0 : Int) == 1) = false) ∨ (arN p0 = true ∧ ((X0 : Int) == 1) = true ∧ ((Y0 : Int) == 1) = false) := by
          cases h1 : arN p0
          · exact .inl rfl
          · refine .inr ?_
            by_cases h2 : X0 = 1
            · exact .inr ⟨rfl, by rw [beq_iff_eq]; omega, by rw [beq_eq_false_iff_ne]; exact fun h => hkk ⟨h1, h2, by omega⟩⟩
            · exact .inl ⟨rfl, by rw [beq_eq_false_iff_ne]; omega⟩
        clear hkk
        rcases hways with h1 | ⟨h1, h2⟩ | ⟨h1, h2, h3⟩
        all_goals
          rw [h1] at HAr
          go_wp2_with fail
          refine (unhide HAr _).mono ?_
          rintro e w' ⟨rfl, hw'⟩
          obtain rfl := hw'.symm
          go_upto_region 9 with fail
          have hKS := kn_store (d := p1) (q := ⟨p0, p1, p2, p3, p4⟩) HRw.out hkn.l8 q3 (HWb.out.trans (HBc.out.mono (by omega))) (HPb.out.keep (HBc.out.block _ (by omega))) HO.out
          obtain ⟨ht5, wS, hwS, r1, b1, r2, o1, l1⟩ := hKS
          have s0 := r2.cell 0 (by simp [putZ]); have s1 := r2.cell 1 (by simp [putZ]); have s2 := r2.cell 2 (by simp [putZ]); have s3 := r2.cell 3 (by simp [putZ]); have s4 := r2.cell 4 (by simp [putZ])
          simp only [gz, putZ, List.getD_cons_zero, List.getD_cons_succ] at s0 s1 s2 s3 s4
          have HT5 := hide ht5; have HwS := hide hwS; have HR1 := hide r1; have HO1 := hide o1
          have HB1 : Hid (Below w.heap.size w wS) := (HBl.out.trans ((HWb.out.trans (HBc.out.mono (by omega))).mono (by omega))).trans b1
          clear ht5 hwS r1 b1 r2 o1
          go_wp2_with (first | (refine wpList_storeM rfl _ _ rfl w.heap.size (p1 * 5) ⟨p0, p1, p2, p3, p4⟩ rfl rfl HT5.out wS HwS.out ?_) | (at_builtin; refine wpList_append_lies _ rfl _ _ 61 rfl (w.heap.size + 1) 59 inf _ 5 40 Tryd.underlying61 HInf.out HZ.out HSz.out HBy.out rfl (by decide) (.slice va k vc) k (putCs st.2) rfl (HO1.out.alloc _) ⟨wS.heap.size, 0, none⟩ 1 1 [.int .i64 (p0 : Int), .int .i64 (p1 : Int), .int .i64 (p2 : Int), .int .i64 (p3 : Int), .int .i64 (p4 : Int)] rfl rfl (World.news_of_block (_root_.Go.heap_alloc_new wS _)) (fun u hu => by simp at hu; rcases hu with rfl | rfl | rfl | rfl | rfl <;> rfl) (by decide) (by unfold maxLen; omega) (by omega) (by rw [size_alloc1]; omega) (wS.heap.size + 1) (by rw [size_alloc1]) ?_; intro g2' cap2 w3 hown2 hgr2 hat2 hlt2; have HO3 := hide hown2; have HGr := hide hgr2; clear hown2 hgr2 hat2))
          refine ⟨⟨k + 1, (st.1.set p1 ⟨p0, p1, p2, p3, p4⟩, st.2 ++ [⟨p0, p1, p2, p3, p4⟩]), by omega, by go_num, ?_, ?_, ?_, ?_⟩, by simp [intOf]; omega⟩
          · exact (by rw [HKp.out] at HNx; exact HNx.out)
          · rw [putCs_snoc]
            exact HO3.out
          · refine HR1.out.keep ((HGr.out.block _ (by rw [size_alloc1]; have := HR1.out.lt; omega) (fun e => ?_)).trans (Below.heap_alloc wS _ _ HR1.out.lt))
            have := (row_lt HO1.out _ e.symm).1
            omega
          · exact (HB1.out.alloc (by have := HR1.out.lt; omega) _).grown HGr.out (by rw [size_alloc1]; have := HR1.out.lt; omega) (fun q hq => by have := (row_lt HO1.out q hq).1; omega)
    · have hlt' : ¬ (k : Int) < (ps.length : Int) := by omega
      have hkn : k = ps.length := by omega
      subst hkn
      rw [List.take_length] at HSt
      have HE : Hid (st.2 = wKn ps) := by unfold Hid; rw [HSt.out]; rfl
      have HL : Hid ((wKn ps).length = ps.length) := (wKn_ok HW.out).2
      clear hown hbl hrow
      go_wp2_with fail
      go_ret
      refine ⟨HBl.out, _, rfl, ?_⟩
      rw [HL.out, ← HE.out]
      exact ⟨HO.out.1, HO.out.2.imp id (fun ⟨g, cap, cur, q1, q2, q3⟩ => ⟨g, cap, cur, q1, by omega, q3⟩)⟩
end Go.Proofs.YtmmflekajbeamaaDoor

namespace Go.Proofs.YtmmflekajbeamaaDoor
open Go.RowKit

/-- The list when k pairs have been changed. -/
def rvk (l : List PutN) (k : Nat) : List PutN := (List.range l.length).map fun m => if m < k ∨ l.length - k ≤ m then l.getD (l.length - 1 - m) zPut else l.getD m zPut
theorem rvk_len (l : List PutN) (k : Nat) : (rvk l k).length = l.length := by simp [rvk]
theorem rvk_get (l : List PutN) (k m : Nat) (h : m < l.length) : (rvk l k)[m]? = some (if m < k ∨ l.length - k ≤ m then l.getD (l.length - 1 - m) zPut else l.getD m zPut) := by
  unfold rvk
  rw [List.getElem?_map, List.getElem?_range h]; rfl
theorem getD_z {l : List PutN} {m : Nat} (h : m < l.length) : l[m]? = some (l.getD m zPut) := by rw [List.getD_eq_getElem?_getD, List.getElem?_eq_getElem h]; rfl
theorem rvk_zero (l : List PutN) : rvk l 0 = l := by
  apply List.ext_getElem?
  intro m
  by_cases h : m < l.length
  · rw [rvk_get l 0 m h, if_neg (by omega), getD_z h]
  · rw [List.getElem?_eq_none (by rw [rvk_len]; omega), List.getElem?_eq_none (by omega)]
theorem rvk_end (l : List PutN) (k : Nat) (h : ¬ k + 1 + k < l.length) : rvk l k = l.reverse := by
  apply List.ext_getElem?
  intro m
  by_cases hm : m < l.length
  · rw [rvk_get l k m hm, List.getElem?_reverse hm, getD_z (by omega)]
    by_cases hc : m < k ∨ l.length - k ≤ m
    · rw [if_pos hc]
    · rw [if_neg hc, show l.length - 1 - m = m by omega]
  · rw [List.getElem?_eq_none (by rw [rvk_len]; omega), List.getElem?_eq_none (by simp; omega)]
theorem rvk_succ (l : List PutN) (k : Nat) (h : k + 1 + k < l.length) : ((rvk l k).set k (l.getD (l.length - 1 - k) zPut)).set (l.length - 1 - k) (l.getD k zPut) = rvk l (k + 1) := by
  apply List.ext_getElem?
  intro m
  rw [List.getElem?_set, List.getElem?_set, List.length_set, rvk_len]
  by_cases hm : m < l.length
  · rw [rvk_get l (k + 1) m hm]
    by_cases h1 : l.length - 1 - k = m
    · rw [if_pos h1, if_pos (by omega), if_pos (by omega), show l.length - 1 - m = k by omega]
    · rw [if_neg h1]
      by_cases h2 : k = m
      · rw [if_pos h2, if_pos (by omega), if_pos (by omega), h2]
      · rw [if_neg h2, rvk_get l k m hm]
        by_cases hc : m < k ∨ l.length - k ≤ m
        · rw [if_pos hc, if_pos (by omega)]
        · rw [if_neg hc, if_neg (by omega)]
  · rw [if_neg (by omega), if_neg (by omega), List.getElem?_eq_none (by rw [rvk_len]; omega), List.getElem?_eq_none (by rw [rvk_len]; omega)]

def set5V (z : List Value) (o : Nat) (q : PutN) : List Value := ((((z.set o (.int .i64 (q.kind : Int))).set (o + 1) (.int .i64 (q.d : Int))).set (o + 1 + 1) (.int .i64 (q.a : Int))).set (o + 1 + 1 + 1) (.int .i64 (q.b : Int))).set (o + 1 + 1 + 1 + 1) (.int .i64 (q.k : Int))
theorem set5V_app (a z : List Value) (o : Nat) (q : PutN) : set5V (a ++ z) (o + a.length) q = a ++ set5V z o q := by
  unfold set5V
  rw [List.set_append_right _ _ (by omega), List.set_append_right _ _ (by omega), List.set_append_right _ _ (by omega), List.set_append_right _ _ (by omega), List.set_append_right _ _ (by omega)]
  simp only [Nat.add_sub_cancel]
  rw [show o + a.length + 1 - a.length = o + 1 by omega, show o + a.length + 1 + 1 - a.length = o + 1 + 1 by omega, show o + a.length + 1 + 1 + 1 - a.length = o + 1 + 1 + 1 by omega, show o + a.length + 1 + 1 + 1 + 1 - a.length = o + 1 + 1 + 1 + 1 by omega]
theorem putCs_set (q : PutN) : ∀ (l : List PutN) (d : Nat), d < l.length → set5V (putCs l) (d * 5) q = putCs (l.set d q)
  | [], d, h => by simp at h
  | p :: l, 0, _ => rfl
  | p :: l, d + 1, h => by
    have e1 : putCs (p :: l) = (putV p).toList ++ putCs l := by simp [putCs]
    have e2 : putCs ((p :: l).set (d + 1) q) = (putV p).toList ++ putCs (l.set d q) := by simp [putCs]
    rw [e1, e2, show (d + 1) * 5 = d * 5 + (putV p).toList.length by rw [Nat.succ_mul]; rfl, set5V_app, putCs_set q l d (by simpa using h)]
theorem own_set5 {w : World} {B g n cap : Nat} {l : List PutN} (h : w.ownsRow B 59 5 (.slice (some ⟨g, 0, none⟩) n cap) n (putCs l)) (d : Nat) (hd : d < l.length) (q : PutN) : (w.setCells g (d * 5) (putV q).toList).ownsRow B 59 5 (.slice (some ⟨g, 0, none⟩) n cap) n (putCs (l.set d q)) := by
  rw [setCells5, ← putCs_set q l d hd]
  exact (((((h.stored (d * 5) _).1.stored (d * 5 + 1) _).1.stored (d * 5 + 1 + 1) _).1.stored (d * 5 + 1 + 1 + 1) _).1.stored (d * 5 + 1 + 1 + 1 + 1) _).1

theorem off_ne {k j : Nat} (a b : Nat) (h : k < j) (ha : a < 5) : ¬ k * 5 + a = j * 5 + b := by omega
theorem off_ne' {k j : Nat} (a b : Nat) (h : k < j) (ha : a < 5) : ¬ j * 5 + b = k * 5 + a := by omega
set_option maxRecDepth 100000 in
set_option maxHeartbeats 8000000 in
theorem reverse_any (B g cap : Nat) (l : List PutN) (w : World) (ho : w.ownsRow B 59 5 (.slice (some ⟨g, 0, none⟩) l.length cap) l.length (putCs l)) (hl : l.length ≤ 8) :
    Calls Tryd.prog 137 #[.slice (some ⟨g, 0, none⟩) l.length cap] w fun e' w' => e' = .returned (.tuple #[]) ∧ w'.ownsRow B 59 5 (.slice (some ⟨g, 0, none⟩) l.length cap) l.length (putCs l.reverse) ∧ (∀ g', g' ≠ g → w'.heap[g']? = w.heap[g']?) ∧ Below B w w' := by
  have HO := hide ho
  have hl' : (l.length : Int) ≤ 8 := by omega
  clear ho
  go_enter Tryd.func137, Tryd.ntmps137
  go_wp2_with fail
  go_loopw [2, 3] (fun i j wr => ∃ k : Nat, k ≤ l.length ∧ i = .int .i64 k ∧ j = .int .i64 ((l.length : Int) - 1 - k) ∧ Hid (wr.ownsRow B 59 5 (.slice (some ⟨g, 0, none⟩) l.length cap) l.length (putCs (rvk l k)) ∧ (∀ g', g' ≠ g → wr.heap[g']? = w.heap[g']?) ∧ Below B w wr)) (fun i _ _ => l.length - (intOf i).toNat)
  case atStart => exact ⟨0, Nat.zero_le _, rfl, by simp, by rw [rvk_zero]; exact HO.out, fun _ _ => rfl, Below.refl _ _⟩
  case round =>
    obtain ⟨k, hk, rfl, rfl, HR⟩ := hrel
    by_cases hlt : k + 1 + k < l.length
    · obtain ⟨j, hj⟩ : ∃ j, l.length - 1 - k = j := ⟨_, rfl⟩
      have hjj : (l.length : Int) - 1 - (k : Int) = (j : Int) := by omega
      have hjl : j < l.length := by omega
      have hjl' : (j : Int) < (l.length : Int) := by omega
      have hkl' : (k : Int) < (l.length : Int) := by omega
      have hkj : (k : Int) < (j : Int) := by omega
      have hkjn : k < j := by omega
      rw [hjj]
      obtain ⟨h1, h2, h3⟩ := HR.out
      have e : (rvk l k).length = l.length := rvk_len l k
      have h1' := h1
      rw [← e] at h1'
      have hxk : (rvk l k)[k]? = some (l.getD k zPut) := by rw [rvk_get l k k (by omega), if_neg (by omega)]
      have hxj : (rvk l k)[j]? = some (l.getD j zPut) := by rw [rvk_get l k j hjl, if_neg (by omega)]
      obtain ⟨x0, x1, x2, x3, x4⟩ := put_cells h1' k _ hxk
      obtain ⟨y0, y1, y2, y3, y4⟩ := put_cells h1' j _ hxj
      have fk0 : wr.frozen? ⟨g, k * 5, none⟩ = false := h1.frozenAt _
      have fj0 : wr.frozen? ⟨g, j * 5, none⟩ = false := h1.frozenAt _
      have fk1 : wr.frozen? ⟨g, k * 5 + 1, none⟩ = false := h1.frozenAt _
      have fj1 : wr.frozen? ⟨g, j * 5 + 1, none⟩ = false := h1.frozenAt _
      have fk2 : wr.frozen? ⟨g, k * 5 + 2, none⟩ = false := h1.frozenAt _
      have fj2 : wr.frozen? ⟨g, j * 5 + 2, none⟩ = false := h1.frozenAt _
      have fk3 : wr.frozen? ⟨g, k * 5 + 3, none⟩ = false := h1.frozenAt _
      have fj3 : wr.frozen? ⟨g, j * 5 + 3, none⟩ = false := h1.frozenAt _
      have fk4 : wr.frozen? ⟨g, k * 5 + 4, none⟩ = false := h1.frozenAt _
      have fj4 : wr.frozen? ⟨g, j * 5 + 4, none⟩ = false := h1.frozenAt _
      have hsucc := rvk_succ l k hlt
      rw [hj] at hsucc
      generalize l.getD k zPut = X at *
      generalize l.getD j zPut = Y at *
      obtain ⟨X0, X1, X2, X3, X4⟩ := X
      obtain ⟨Y0, Y1, Y2, Y3, Y4⟩ := Y
      simp only at x0 x1 x2 x3 x4 y0 y1 y2 y3 y4
      have HF : Hid (∀ WF, WF = (wr.setCells g (k * 5) (putV ⟨Y0, Y1, Y2, Y3, Y4⟩).toList).setCells g (j * 5) (putV ⟨X0, X1, X2, X3, X4⟩).toList → (WF.drew.ownsRow B 59 5 (.slice (some ⟨g, 0, none⟩) l.length cap) l.length (putCs (rvk l (k + 1))) ∧ (∀ g', g' ≠ g → WF.drew.heap[g']? = w.heap[g']?) ∧ Below B w WF.drew)) := by
        intro WF hWF
        have hBg : B ≤ g := (row_lt h1 g rfl).1
        have f1 : WF.ownsRow B 59 5 (.slice (some ⟨g, 0, none⟩) l.length cap) l.length (putCs (rvk l (k + 1))) := by
          rw [hWF, ← hsucc]
          exact own_set5 (own_set5 h1 k (by omega) _) j (by rw [List.length_set]; omega) _
        have f2 : ∀ g', g' ≠ g → WF.heap[g']? = w.heap[g']? := fun g' hg => by
          rw [hWF, setCells5_other _ _ _ _ _ hg, setCells5_other _ _ _ _ _ hg, h2 g' hg]
        have f3 : Below B w WF := by
          rw [hWF]
          exact setCells5_below (setCells5_below h3 hBg _ _) hBg _ _
        exact ⟨ownsRow_keep f1 (fun _ _ => rfl), f2, f3.drew⟩
      have ne00 : ¬ k * 5 = j * 5 := off_ne 0 0 hkjn (by decide)
      have nf00 : ¬ j * 5 = k * 5 := off_ne' 0 0 hkjn (by decide)
      have ne01 : ¬ k * 5 = j * 5 + 1 := off_ne 0 1 hkjn (by decide)
      have nf01 : ¬ j * 5 + 1 = k * 5 := off_ne' 0 1 hkjn (by decide)
      have ne02 : ¬ k * 5 = j * 5 + 2 := off_ne 0 2 hkjn (by decide)
      have nf02 : ¬ j * 5 + 2 = k * 5 := off_ne' 0 2 hkjn (by decide)
      have ne03 : ¬ k * 5 = j * 5 + 3 := off_ne 0 3 hkjn (by decide)
      have nf03 : ¬ j * 5 + 3 = k * 5 := off_ne' 0 3 hkjn (by decide)
      have ne04 : ¬ k * 5 = j * 5 + 4 := off_ne 0 4 hkjn (by decide)
      have nf04 : ¬ j * 5 + 4 = k * 5 := off_ne' 0 4 hkjn (by decide)
      have ne10 : ¬ k * 5 + 1 = j * 5 := off_ne 1 0 hkjn (by decide)
      have nf10 : ¬ j * 5 = k * 5 + 1 := off_ne' 1 0 hkjn (by decide)
      have ne11 : ¬ k * 5 + 1 = j * 5 + 1 := off_ne 1 1 hkjn (by decide)
      have nf11 : ¬ j * 5 + 1 = k * 5 + 1 := off_ne' 1 1 hkjn (by decide)
      have ne12 : ¬ k * 5 + 1 = j * 5 + 2 := off_ne 1 2 hkjn (by decide)
      have nf12 : ¬ j * 5 + 2 = k * 5 + 1 := off_ne' 1 2 hkjn (by decide)
      have ne13 : ¬ k * 5 + 1 = j * 5 + 3 := off_ne 1 3 hkjn (by decide)
      have nf13 : ¬ j * 5 + 3 = k * 5 + 1 := off_ne' 1 3 hkjn (by decide)
      have ne14 : ¬ k * 5 + 1 = j * 5 + 4 := off_ne 1 4 hkjn (by decide)
      have nf14 : ¬ j * 5 + 4 = k * 5 + 1 := off_ne' 1 4 hkjn (by decide)
      have ne20 : ¬ k * 5 + 2 = j * 5 := off_ne 2 0 hkjn (by decide)
      have nf20 : ¬ j * 5 = k * 5 + 2 := off_ne' 2 0 hkjn (by decide)
      have ne21 : ¬ k * 5 + 2 = j * 5 + 1 := off_ne 2 1 hkjn (by decide)
      have nf21 : ¬ j * 5 + 1 = k * 5 + 2 := off_ne' 2 1 hkjn (by decide)
      have ne22 : ¬ k * 5 + 2 = j * 5 + 2 := off_ne 2 2 hkjn (by decide)
      have nf22 : ¬ j * 5 + 2 = k * 5 + 2 := off_ne' 2 2 hkjn (by decide)
      have ne23 : ¬ k * 5 + 2 = j * 5 + 3 := off_ne 2 3 hkjn (by decide)
      have nf23 : ¬ j * 5 + 3 = k * 5 + 2 := off_ne' 2 3 hkjn (by decide)
      have ne24 : ¬ k * 5 + 2 = j * 5 + 4 := off_ne 2 4 hkjn (by decide)
      have nf24 : ¬ j * 5 + 4 = k * 5 + 2 := off_ne' 2 4 hkjn (by decide)
      have ne30 : ¬ k * 5 + 3 = j * 5 := off_ne 3 0 hkjn (by decide)
      have nf30 : ¬ j * 5 = k * 5 + 3 := off_ne' 3 0 hkjn (by decide)
      have ne31 : ¬ k * 5 + 3 = j * 5 + 1 := off_ne 3 1 hkjn (by decide)
      have nf31 : ¬ j * 5 + 1 = k * 5 + 3 := off_ne' 3 1 hkjn (by decide)
      have ne32 : ¬ k * 5 + 3 = j * 5 + 2 := off_ne 3 2 hkjn (by decide)
      have nf32 : ¬ j * 5 + 2 = k * 5 + 3 := off_ne' 3 2 hkjn (by decide)
      have ne33 : ¬ k * 5 + 3 = j * 5 + 3 := off_ne 3 3 hkjn (by decide)
      have nf33 : ¬ j * 5 + 3 = k * 5 + 3 := off_ne' 3 3 hkjn (by decide)
      have ne34 : ¬ k * 5 + 3 = j * 5 + 4 := off_ne 3 4 hkjn (by decide)
      have nf34 : ¬ j * 5 + 4 = k * 5 + 3 := off_ne' 3 4 hkjn (by decide)
      have ne40 : ¬ k * 5 + 4 = j * 5 := off_ne 4 0 hkjn (by decide)
      have nf40 : ¬ j * 5 = k * 5 + 4 := off_ne' 4 0 hkjn (by decide)
      have ne41 : ¬ k * 5 + 4 = j * 5 + 1 := off_ne 4 1 hkjn (by decide)
      have nf41 : ¬ j * 5 + 1 = k * 5 + 4 := off_ne' 4 1 hkjn (by decide)
      have ne42 : ¬ k * 5 + 4 = j * 5 + 2 := off_ne 4 2 hkjn (by decide)
      have nf42 : ¬ j * 5 + 2 = k * 5 + 4 := off_ne' 4 2 hkjn (by decide)
      have ne43 : ¬ k * 5 + 4 = j * 5 + 3 := off_ne 4 3 hkjn (by decide)
      have nf43 : ¬ j * 5 + 3 = k * 5 + 4 := off_ne' 4 3 hkjn (by decide)
      have ne44 : ¬ k * 5 + 4 = j * 5 + 4 := off_ne 4 4 hkjn (by decide)
      have nf44 : ¬ j * 5 + 4 = k * 5 + 4 := off_ne' 4 4 hkjn (by decide)
      clear h1 h1' h2 h3 e hxk hxj hlt hsucc
      go_wp2_with fail
      go_region
      all_goals
        go_wp2_with fail
        clear ne00 nf00 ne01 nf01 ne02 nf02 ne03 nf03 ne04 nf04 ne10 nf10 ne11 nf11 ne12 nf12 ne13 nf13 ne14 nf14 ne20 nf20 ne21 nf21 ne22 nf22 ne23 nf23 ne24 nf24 ne30 nf30 ne31 nf31 ne32 nf32 ne33 nf33 ne34 nf34 ne40 nf40 ne41 nf41 ne42 nf42 ne43 nf43 ne44 nf44
        refine ⟨⟨k + 1, by omega, by go_num, by congr 1; omega, ?_⟩, by simp [intOf]; omega⟩
        exact HF.out _ rfl
    · have hkj : ¬ (k : Int) < (l.length : Int) - 1 - (k : Int) := by omega
      have HE := hide (rvk_end l k hlt)
      clear hlt
      go_wp2_with fail
      go_end0
      obtain ⟨h1, h2, h3⟩ := HR.out
      rw [HE.out] at h1
      exact ⟨rfl, h1, h2, h3⟩
set_option maxRecDepth 100000 in
set_option maxHeartbeats 2000000 in
theorem reverse_nil (a : Option Addr) (cap : Nat) (w : World) :
    Calls Tryd.prog 137 #[.slice a 0 cap] w fun e' w' => e' = .returned (.tuple #[]) ∧ w' = w := by
  go_enter Tryd.func137, Tryd.ntmps137
  go_wp2_with fail
  go_loopw [2, 3] (fun i j wr => i = .int .i64 0 ∧ j = .int .i64 (-1) ∧ wr = w) (fun _ _ _ => 0)
  case atStart => exact ⟨rfl, rfl, rfl⟩
  case round =>
    obtain ⟨rfl, rfl, rfl⟩ := hrel
    go_wp2_with fail
    go_end0
    exact ⟨rfl, rfl⟩
end Go.Proofs.YtmmflekajbeamaaDoor
