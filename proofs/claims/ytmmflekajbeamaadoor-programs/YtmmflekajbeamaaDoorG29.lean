/-
  The law's own marks (markInt).
  The law's own functions on lists: two lists the same (sameInts); marks (markInt).
  The law's book: a list that came out is written full of marks, appended to, and kept (keepInts).
-/
import Derived.Test.YtmmflekajbeamaaDoorG01
import Derived.Test.YtmmflekajbeamaaDoorG28
namespace Go.Proofs.YtmmflekajbeamaaDoor
open Go.RowKit

set_option maxRecDepth 100000 in
set_option maxHeartbeats 1000000 in
theorem markInt_any (n : Int) (w : World) (h0 : 0 ≤ n) (h1 : n ≤ 100000) :
    Calls Tryd.prog 73 #[.int .i64 n] w fun e' w' => e' = .returned (.int .i64 (-1000 - n)) ∧ w' = w := by
  go_enter Tryd.func73, Tryd.ntmps73
  go_wp2
  go_ret
  exact ⟨rfl, rfl⟩
end Go.Proofs.YtmmflekajbeamaaDoor

namespace Go.Proofs.YtmmflekajbeamaaDoor
open Go.RowKit

set_option maxRecDepth 100000 in
set_option maxHeartbeats 2000000 in
theorem sameInts_yes (a b : Value) (B B' : Nat) (ws : List Int) (w : World) (ha : w.ownsRow B 3 1 a ws.length (intCs ws)) (hb : w.ownsRow B' 3 1 b ws.length (intCs ws)) (hl : ws.length ≤ 128) :
    Calls Tryd.prog 39 #[a, b] w fun e' w' => e' = .returned (.bool true) ∧ Below w.heap.size w w' := by
  obtain ⟨aa, ac, rfl⟩ := owns_len ha
  obtain ⟨ba, bc, rfl⟩ := owns_len hb
  have HA := hide ha; have HB := hide hb
  clear ha hb
  go_enter Tryd.func39, Tryd.ntmps39
  go_wp2_with fail
  go_loopw [5] (fun i wr => ∃ k : Nat, k ≤ ws.length ∧ i = .int .i64 k ∧ Below w.heap.size w wr) (fun i _ => ws.length - (intOf i).toNat)
  case atStart => exact ⟨0, Nat.zero_le _, rfl, Below.refl _ _⟩
  case round =>
    obtain ⟨k, hk, rfl, hbl⟩ := hrel
    have HBl := hide hbl
    by_cases hlt : k < ws.length
    · have hlt' : (k : Int) < (ws.length : Int) := by omega
      obtain ⟨g1, c1, hf1, _, hg1⟩ := HA.out.form (by omega)
      obtain ⟨g2, c2, hf2, _, hg2⟩ := HB.out.form (by omega)
      cases hf1
      cases hf2
      have cell : ∀ {B g cap}, w.ownsRow B 3 1 (.slice (some ⟨g, 0, none⟩) ws.length cap) ws.length (intCs ws) → w.cell? ⟨g, k, none⟩ = some (.int .i64 ws[k]) := fun h => by
        rw [h.cellAt k (by omega)]
        unfold intCs
        rw [List.getElem?_map, List.getElem?_eq_getElem hlt]
        rfl
      have x1 := (below_cell' hbl g1 k hg1).trans (cell HA.out)
      have x2 := (below_cell' hbl g2 k hg2).trans (cell HB.out)
      generalize ws[k] = y at *
      clear cell hbl
      go_wp2_with fail
      go_quiet (fail)
      go_wp2_with fail
      exact ⟨⟨k + 1, by omega, by go_num, below_drewN HBl.out nq⟩, by simp [intOf]; omega⟩
    · have hlt' : ¬ (k : Int) < (ws.length : Int) := by omega
      clear hbl
      go_wp2_with fail
      go_ret
      exact ⟨rfl, HBl.out⟩
end Go.Proofs.YtmmflekajbeamaaDoor

namespace Go.Proofs.YtmmflekajbeamaaDoor
open Go.RowKit

theorem wpList_append_m (w : World) {ops : Array Oper} {rest : List Oper} {o : Oper} {a : Act} {Q : Exit → Act → World → Prop} (hgd : o.guard = none) (s x : Operand)
    (ho : o.op = .call { callee := .builtin .append, args := #[s, x], argTypes := #[36, 36] }) (m : Int) (B : Nat) (v : Value) (n k c : Nat) (hs : a.eval s = v) (hown : w.ownsRow B 3 1 v n (mks n m))
    (ad : Addr) (hx : a.eval x = .slice (some ad) k c) (hnews : ∀ j u, (mks k m)[j]? = some u → w.cell? (ad.add j) = some u) (hk : 0 < k) (hn : n + k ≤ 10000) (hB : B ≤ w.heap.size)
    (h : ∀ aa cc w', w'.ownsRow B 3 1 (.slice aa (n + k) cc) (n + k) (mks (n + k) m) → KM B m w w' → wpList Tryd.prog ops Q rest (a.put o.dst (.slice aa (n + k) cc)) w') : wpList Tryd.prog ops Q (o :: rest) a w := by
  refine wpList_plain hgd fun K hK => ?_
  obtain ⟨v', w', hr, h2, h3, aa, cc, rfl⟩ := run_append_m w m B v n k c o.type hown ad hnews hk hn hB
  unfold Oper.wp
  simp [execOp, ho, resolve, invoke, builtin, hs, hx, hr, Result.andThen]
  exact hK _ _ (h aa cc w' h2 h3)

structure BookAt (N : Nat) (vs : List Value) (vi : Value) (w : World) : Prop where
  c0 : w.cell? ⟨N, 0, none⟩ = some vi
  c1 : w.cell? ⟨N, 1, none⟩ = some (.slice none 0 0)
  c2 : w.cell? ⟨N, 2, none⟩ = some (.slice none 0 0)
  fz : ∀ j, w.frozen? ⟨N, j, none⟩ = false
  nk : ∀ cur, w.heap[N]? ≠ some (.cells cur 3 (0, 0))
  row : w.ownsRow (N + 1) 36 1 vi vs.length vs
  ms : ∀ (i : Nat) (v : Value), vs[i]? = some v → MS w v (-1000 - 4 * ((i / 4 : Nat) : Int))
theorem BookAt.nlt {N : Nat} {vs : List Value} {vi : Value} {w : World} (h : BookAt N vs vi w) : N < w.heap.size := block_lt_of_cell h.c0
theorem BookAt.above {N : Nat} {vs : List Value} {vi : Value} {w w' : World} (h : BookAt N vs vi w) (hb : Below w.heap.size w w') : BookAt N vs vi w' := by
  have hN := hb.block N h.nlt
  exact ⟨(World.cell?_of_block hN).trans h.c0, (World.cell?_of_block hN).trans h.c1, (World.cell?_of_block hN).trans h.c2, fun j => (World.frozen?_of_block hN).trans (h.fz j), fun cur => by rw [hN]; exact h.nk cur,
    own_grow h.row hb, fun i v hi => (h.ms i v hi).block (fun g hg _ => hb.block g hg)⟩
theorem fill_set (n k : Nat) (m : Int) (xs : List Value) (hl : xs.length = n) (hk : k < n) : (mks k m ++ xs.drop k).set k (.int .i64 m) = mks (k + 1) m ++ xs.drop (k + 1) := by
  rw [List.set_append_right _ _ (by simp [mks])]
  have e1 : (mks k m).length = k := by simp [mks]
  rw [e1, Nat.sub_self, List.drop_eq_getElem_cons (by omega), List.set_cons_zero]
  unfold mks
  rw [List.replicate_succ', List.append_assoc]
  rfl
theorem infoSl : ∃ i, Tryd.prog.info? 36 = some i ∧ i.zero = some (.slice none 0 0) ∧ i.size = 1 ∧ i.bytes = 24 := by
  have h : (Tryd.prog.info? 36).map (fun i => (i.zero, i.size, i.bytes)) = some (some (.slice none 0 0), 1, 24) := by kernel_rfl
  cases hq : Tryd.prog.info? 36 with
  | none => rw [hq] at h; cases h
  | some i =>
    rw [hq] at h
    simp only [Option.map_some, Option.some.injEq, Prod.mk.injEq] at h
    exact ⟨i, rfl, h.1, h.2.1, h.2.2⟩
theorem mks_news (w : World) (t : TypeId) (k : Nat) (m : Int) (c : Array Value) (hc : c.toList = mks k m) : ∀ j u, (mks k m)[j]? = some u → (w.alloc (.cells c t)).cell? ((⟨w.heap.size, 0, none⟩ : Addr).add j) = some u := by
  rw [← hc]
  exact World.news_of_block (_root_.Go.heap_alloc_new w _)

theorem book_add {N q : Nat} {vs : List Value} {vi : Value} {w3 w5 : World} (hbk : BookAt N vs vi w3) (g c : Nat) (l4 : List Value) (o : Obj) (h4 : l4.length = 4)
    (ho : w5.ownsRow (N + 1) 36 1 (.slice (some ⟨g, 0, none⟩) (vs.length + 4) c) (vs.length + 4) (vs ++ l4)) (hg : (w3.alloc o).grownBy w5 vi.ownBlock) (hms : ∀ v ∈ l4, MS w3 v (-1000 - 4 * (q : Int))) (hq : vs.length = 4 * q) :
    BookAt N (vs ++ l4) (.slice (some ⟨g, 0, none⟩) (vs.length + 4) c) (w5.setCell ⟨N, 0, none⟩ (.slice (some ⟨g, 0, none⟩) (vs.length + 4) c)) := by
  have hN3 := hbk.nlt
  have hNv : some N ≠ vi.ownBlock := fun e => by have := (row_lt hbk.row N e.symm).1; omega
  have hN5 : w5.heap[N]? = w3.heap[N]? := (hg.block N (by rw [size_alloc1]; omega) hNv).trans (Below.heap_alloc w3 _ N hN3)
  have hgN : g ≠ N := by have := (row_lt ho g rfl).1; omega
  have hint : ∀ k, k < w3.heap.size → (∃ cur, w3.heap[k]? = some (.cells cur 3 (0, 0))) → (w5.setCell ⟨N, 0, none⟩ (.slice (some ⟨g, 0, none⟩) (vs.length + 4) c)).heap[k]? = w3.heap[k]? := fun k hk ⟨cur, hc⟩ => by
    have hkN : k ≠ N := fun e => hbk.nk cur (e ▸ hc)
    have hkv : some k ≠ vi.ownBlock := fun e => by
      obtain ⟨c2, t2⟩ := ownsRow_kind hbk.row k e.symm
      rw [hc] at t2
      cases t2
    exact (heap_set_other w5 _ hkN).trans ((hg.block k (by rw [size_alloc1]; omega) hkv).trans (Below.heap_alloc w3 _ k hk))
  have k1 : ∀ j, w5.cell? ⟨N, j, none⟩ = w3.cell? ⟨N, j, none⟩ := fun j => World.cell?_of_block hN5
  refine ⟨cell_set_same ((k1 0).trans hbk.c0), cell_of_rows ((k1 1).trans hbk.c1) (by decide), cell_of_rows ((k1 2).trans hbk.c2) (by decide), fun j => by rw [World.frozen?_setCell]; exact (World.frozen?_of_block hN5).trans (hbk.fz j), fun cur hc => ?_, ?_, fun i v hi => ?_⟩
  · obtain ⟨c2, t2, fr2, hc2⟩ := cells_of_cell hbk.c0
    rw [← hN5] at hc2
    rw [setCell_eq_setRow w5 N 0 c2 t2 fr2 _ hc2, setRow_heap w5 N c2 _ t2 fr2 hc2] at hc
    cases hc
    exact hbk.nk c2 (hN5 ▸ hc2)
  · rw [List.length_append, h4]
    exact ownsRow_keep ho (fun k hk => by cases hk; exact heap_set_other w5 _ hgN)
  · by_cases hlt : i < vs.length
    · rw [List.getElem?_append_left hlt] at hi
      exact (hbk.ms i v hi).block hint
    · rw [List.getElem?_append_right (by omega)] at hi
      have hlt2 := (List.getElem?_eq_some_iff.1 hi).1
      have e : ((i / 4 : Nat) : Int) = (q : Int) := by omega
      rw [e]
      exact (hms v (List.mem_of_getElem? hi)).block hint

set_option maxRecDepth 100000 in
set_option maxHeartbeats 8000000 in
theorem keepInts_any (N q : Nat) (vs : List Value) (vi : Value) (w0 w : World) (h0 : BookAt N vs vi w0) (hb : Below w0.heap.size w0 w) (hq : vs.length = 4 * q) (hq2 : q ≤ 100) (l : Value) (ws : List Int) (hl : w.ownsRow w0.heap.size 3 1 l ws.length (intCs ws)) (hwl : ws.length ≤ 128) :
    Calls Tryd.prog 41 #[.pointer (some ⟨N, 0, none⟩), l] w fun e' w' => e' = .returned (.tuple #[]) ∧ (∃ vs' vi', BookAt N vs' vi' w' ∧ vs'.length = 4 * (q + 1)) ∧ Below N w0 w' := by
  have hW := h0.above hb
  obtain ⟨ia, ic, rfl⟩ := owns_len h0.row
  obtain ⟨la, lc, rfl⟩ := owns_len hl
  have c0 := hW.c0
  have hNw := hW.nlt
  have hmk : ((vs.length : Nat) : Int) ≤ 100000 := by omega
  have HMk := hide (fun w' => markInt_any (vs.length : Int) w' (by omega) hmk)
  obtain ⟨m, hm⟩ : ∃ m : Int, m = -1000 - (vs.length : Int) := ⟨_, rfl⟩
  rw [← hm] at HMk
  have HM := hide hm
  have HQ := hide hq
  have hvl : vs.length ≤ 400 := by omega
  have H0 := hide h0; have HB := hide hb; have HL := hide hl
  have hBw := hb.size
  obtain ⟨inf, hinf, hz, hsz1, hby⟩ := infoSl
  have HInf := hide hinf; have HZ := hide hz; have HSz := hide hsz1; have HBy := hide hby
  clear h0 hb hl hW hm hq hinf hz hsz1 hby
  go_enter Tryd.func41, Tryd.ntmps41
  go_wp2_with fail
  refine (unhide HMk _).mono ?_
  rintro e w' ⟨rfl, hw'⟩
  obtain rfl := hw'.symm
  go_wp2_with fail
  go_loopw [5] (fun i wr => ∃ k : Nat, k ≤ ws.length ∧ i = .int .i64 k ∧ wr.ownsRow w0.heap.size 3 1 (.slice la ws.length lc) ws.length (mks k m ++ (intCs ws).drop k) ∧ KM w0.heap.size m w wr) (fun i _ => ws.length - (intOf i).toNat)
  case atStart => exact ⟨0, Nat.zero_le _, rfl, HL.out, KM.refl _ _ _⟩
  case round =>
    obtain ⟨k, hk, rfl, hown, hkm⟩ := hrel
    have HO := hide hown; have HKm := hide hkm
    by_cases hlt : k < ws.length
    · have hlt' : (k : Int) < (ws.length : Int) := by omega
      obtain ⟨g, cc, hf, _, hgl⟩ := hown.form (by omega)
      cases hf
      obtain ⟨u, hu⟩ : ∃ u, wr.cell? ⟨g, k, none⟩ = some u := by
        rw [hown.cellAt k (by omega)]
        have : k < (mks k m ++ (intCs ws).drop k).length := by simp [mks, intCs]; omega
        exact ⟨_, List.getElem?_eq_getElem this⟩
      have hfz := hown.frozenAt k
      clear hown hkm
      go_wp2_with fail
      have hst := (HO.out.stored k (.int .i64 m)).1
      rw [fill_set ws.length k m (intCs ws) (by simp [intCs]) hlt] at hst
      exact ⟨⟨k + 1, by omega, by go_num, hst, HKm.out.trans (KM.store HO.out k)⟩, by simp [intOf]; omega⟩
    · have hkn : k = ws.length := by omega
      subst hkn
      have hlt' : ¬ (ws.length : Int) < (ws.length : Int) := by omega
      have HO1 : Hid (wr.ownsRow w0.heap.size 3 1 (.slice la ws.length lc) ws.length (mks ws.length m)) := by
        have : (intCs ws).drop ws.length = [] := List.drop_of_length_le (by simp [intCs])
        rw [this, List.append_nil] at hown
        exact hown
      have hsz := hkm.below.size
      clear hown hkm HO
      go_wp2_with (first | (at_builtin; refine wpList_append_m _ rfl _ _ rfl m w0.heap.size (.slice la ws.length lc) ws.length 1 1 rfl (HO1.out.alloc _) ⟨wr.heap.size, 0, none⟩ rfl (mks_news wr _ 1 m _ rfl) (by decide) (by omega) (by rw [size_alloc1]; omega) ?_; intro a1 c1 w1 ho1 hk1; have HK1 := hide (HKm.out.trans ((KM.above (by omega) ((Below.refl _ _).alloc (Nat.le_refl _) _)).trans hk1)); have HG1 := hide (own_ms ho1 (by omega)); have HT1 := hide ((KM.above (B := w0.heap.size) (m := m) (by omega) ((Below.refl wr.heap.size wr).alloc (Nat.le_refl _) _)).trans hk1); have HL1 := hide (own_km (HO1.out.alloc _) hk1); have hs1 := hk1.below.size; rw [size_alloc1] at hs1; clear ho1 hk1) | (at_builtin; refine wpList_append_m _ rfl _ _ rfl m w0.heap.size (.slice la ws.length lc) ws.length 2 2 rfl (HL1.out.alloc _) ⟨w1.heap.size, 0, none⟩ rfl (mks_news w1 _ 2 m _ rfl) (by decide) (by omega) (by rw [size_alloc1]; omega) ?_; intro a2 c2 w2 ho2 hk2; have HK2 := hide (HK1.out.trans ((KM.above (by omega) ((Below.refl _ _).alloc (Nat.le_refl _) _)).trans hk2)); have HG2 := hide (own_ms ho2 (by omega)); have HT2 := hide ((KM.above (B := w0.heap.size) (m := m) (by omega) ((Below.refl w1.heap.size w1).alloc (Nat.le_refl _) _)).trans hk2); have HL2 := hide (own_km (HL1.out.alloc _) hk2); have hs2 := hk2.below.size; rw [size_alloc1] at hs2; clear ho2 hk2) | (at_builtin; refine wpList_append_m _ rfl _ _ rfl m w0.heap.size (.slice la ws.length lc) ws.length 3 3 rfl (HL2.out.alloc _) ⟨w2.heap.size, 0, none⟩ rfl (mks_news w2 _ 3 m _ rfl) (by decide) (by omega) (by rw [size_alloc1]; omega) ?_; intro a3 c3 w3 ho3 hk3; have HK3 := hide (HK2.out.trans ((KM.above (by omega) ((Below.refl _ _).alloc (Nat.le_refl _) _)).trans hk3)); have HG3 := hide (own_ms ho3 (by omega)); have HT3 := hide ((KM.above (B := w0.heap.size) (m := m) (by omega) ((Below.refl w2.heap.size w2).alloc (Nat.le_refl _) _)).trans hk3); have HL3 := hide (own_km (HL2.out.alloc _) hk3); have hs3 := hk3.below.size; rw [size_alloc1] at hs3; clear ho3 hk3; have HBk := hide (H0.out.above (HB.out.trans HK3.out.below)); have d0 := HBk.out.c0; have df := HBk.out.fz 0; have hN3 := HBk.out.nlt) | (at_builtin; refine wpList_append_lies _ rfl _ _ 23 rfl (N + 1) 36 inf _ 1 24 Tryd.underlying23 HInf.out HZ.out HSz.out HBy.out rfl (by decide) (.slice ia vs.length ic) vs.length vs rfl (HBk.out.row.alloc _) ⟨w3.heap.size, 0, none⟩ 4 4 [.slice la ws.length lc, .slice a1 (ws.length + 1) c1, .slice a2 (ws.length + 2) c2, .slice a3 (ws.length + 3) c3] rfl rfl (World.news_of_block (_root_.Go.heap_alloc_new w3 _)) (fun u hu => by simp at hu; rcases hu with rfl | rfl | rfl | rfl <;> rfl) (by decide) (by unfold maxLen; omega) (by omega) (by rw [size_alloc1]; omega) (w3.heap.size + 1) (by rw [size_alloc1]) ?_; intro g5 c5 w5 ho5 hg5 ha5 hl5; have HO5 := hide ho5; have HG5 := hide hg5; have k5 : w5.cell? ⟨N, 0, none⟩ = some (.slice ia vs.length ic) := (hg5.cell_far ⟨N, 0, none⟩ (by rw [size_alloc1]; show N < _; omega) (fun e => by have := (row_lt HBk.out.row N e.symm).1; omega)).trans ((World.cell?_of_block (Below.heap_alloc w3 _ N hN3)).trans d0); have kf5 : w5.frozen? ⟨N, 0, none⟩ = false := (hg5.frozen_far ⟨N, 0, none⟩ (by rw [size_alloc1]; show N < _; omega) (fun e => by have := (row_lt HBk.out.row N e.symm).1; omega)).trans ((World.frozen?_of_block (Below.heap_alloc w3 _ N hN3)).trans df); clear ho5 hg5 ha5))
      have hme : m = -1000 - 4 * (q : Int) := by have := HM.out; have := HQ.out; omega
      have M0 : MS w3 (.slice la ws.length lc) m := own_ms HL3.out (by omega)
      have M1 : MS w3 (.slice a1 (ws.length + 1) c1) m := (HG1.out.km HT2.out).km HT3.out
      have M2 : MS w3 (.slice a2 (ws.length + 2) c2) m := HG2.out.km HT3.out
      have M3 : MS w3 (.slice a3 (ws.length + 3) c3) m := HG3.out
      have hfin := book_add (q := q) HBk.out g5 c5 _ _ rfl HO5.out HG5.out (fun v hv => by
        rw [← hme]
        simp at hv
        rcases hv with rfl | rfl | rfl | rfl
        · exact M0
        · exact M1
        · exact M2
        · exact M3) HQ.out
      go_end0
      refine ⟨rfl, ⟨_, ⟨_, hfin⟩, ?_⟩, ?_⟩
      · have := HQ.out
        simp
        omega
      · have hN0 := H0.out.nlt
        have b3 : Below N w0 w3 := (HB.out.trans HK3.out.below).mono (by omega)
        exact ((b3.alloc (by omega) _).grown HG5.out (by rw [size_alloc1]; omega) (fun j hj => by have := (row_lt HBk.out.row j hj).1; omega)).setCell (p := ⟨N, 0, none⟩) (Nat.le_refl _) _
end Go.Proofs.YtmmflekajbeamaaDoor
