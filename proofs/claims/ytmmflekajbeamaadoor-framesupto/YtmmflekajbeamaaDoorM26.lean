/-
  The law's book, of whatever elements: the lists that came out, each beside what was appended to it.
  The law's own marks (markInt).
  The law's book of puts: marks, two lists the same, a list that came out is written full of marks, appended to, and kept (markPut, samePuts, keepPuts).
  The law's book of puts: a list that came out is written full of marks, appended to, and kept (keepPuts).
  The law's book of puts: its looks (lookPuts, looks); Puts against the document's (putsOf).
-/
import Derived.Test.YtmmflekajbeamaaDoorM25
import Derived.Test.YtmmflekajbeamaaDoorM12
import Derived.Test.YtmmflekajbeamaaDoorM02
import Derived.Test.YtmmflekajbeamaaDoorM16
import Derived.Test.YtmmflekajbeamaaDoorM20
namespace Go.Proofs.YtmmflekajbeamaaDoor
open Go.RowKit

theorem wpList_append_g {P : Program} {T E : TypeId} {k by' : Nat} {mc : List Value} {inf : TypeInfo} {z : Value} (hT : P.underlying T = some (.slice E)) (hinf : P.info? E = some inf) (hz : inf.zero = some z) (hsz : inf.size = k) (hby : inf.bytes = by') (hzc : z.cells.size = k) (hb1 : by' ≤ 1000) (hk : mc.length = k) (k0 : 0 < k) (h1 : ∀ u ∈ mc, u.oneCell' = true)
    (w : World) {ops : Array Oper} {rest : List Oper} {o : Oper} {a : Act} {Q : Exit → Act → World → Prop} (hgd : o.guard = none) (s x : Operand)
    (ho : o.op = .call { callee := .builtin .append, args := #[s, x], argTypes := #[T, T] }) (B : Nat) (v : Value) (n m c : Nat) (hs : a.eval s = v) (hown : w.ownsRow B E k v n (gks mc n))
    (ad : Addr) (hx : a.eval x = .slice (some ad) m c) (hnews : ∀ j u, (gks mc m)[j]? = some u → w.cell? (ad.add j) = some u) (hn : n + m ≤ 2000000) (hB : B ≤ w.heap.size)
    (h : ∀ aa cc w', w'.ownsRow B E k (.slice aa (n + m) cc) (n + m) (gks mc (n + m)) → KG E k mc B w w' → wpList P ops Q rest (a.put o.dst (.slice aa (n + m) cc)) w') : wpList P ops Q (o :: rest) a w := by
  refine wpList_plain hgd fun K hK => ?_
  obtain ⟨v', w', hr, h2, h3, aa, cc, rfl⟩ := run_append_g (ty := o.type) hT hinf hz hsz hby hzc hb1 hk k0 h1 w B v n m c hown ad hnews hn hB
  unfold Oper.wp
  simp [execOp, ho, resolve, invoke, builtin, hs, hx, hr, Result.andThen]
  exact hK _ _ (h aa cc w' h2 h3)
theorem gks_news {mc : List Value} (w : World) (t : TypeId) (k : Nat) (c : Array Value) (hc : c.toList = gks mc k) : ∀ j u, (gks mc k)[j]? = some u → (w.alloc (.cells c t)).cell? ((⟨w.heap.size, 0, none⟩ : Addr).add j) = some u := by
  rw [← hc]
  exact World.news_of_block (_root_.Go.heap_alloc_new w _)
/-- A block that holds one mark. -/
def BoxG (E : TypeId) (mc : List Value) (w : World) (b : Nat) : Prop := w.heap[b]? = some (.cells mc.toArray E (0, 0))
theorem BoxG.kg {E : TypeId} {k : Nat} {mc : List Value} {B : Nat} {w w' : World} {b : Nat} (h : BoxG E mc w b) (hk : mc.length = k) (q : KG E k mc B w w') : BoxG E mc w' b := by
  obtain ⟨cur', h1, h2, h3⟩ := q.keep b _ h
  unfold BoxG
  rw [h1]
  have : cur' = mc.toArray := by
    apply Array.ext_getElem?
    intro j
    by_cases hj : j < k
    · have hm : mc[j]? = some mc[j] := List.getElem?_eq_getElem (by omega)
      rw [h3 j mc[j] (by rw [Nat.mod_eq_of_lt hj]; exact hm) (by rw [List.getElem?_toArray]; exact hm), List.getElem?_toArray, hm]
    · rw [Array.getElem?_eq_none (by rw [h2, List.size_toArray]; omega), Array.getElem?_eq_none (by rw [List.size_toArray]; omega)]
  rw [this]
theorem BoxG.cell {E : TypeId} {mc : List Value} {w : World} {b : Nat} (h : BoxG E mc w b) (j : Nat) : w.cell? ⟨b, j, none⟩ = mc[j]? := by
  unfold World.cell?
  rw [h]
  simp
theorem BoxG.lt {E : TypeId} {mc : List Value} {w : World} {b : Nat} (h : BoxG E mc w b) : b < w.heap.size := (Array.getElem?_eq_some_iff.1 h).1
theorem BoxG.below {E : TypeId} {mc : List Value} {w w' : World} {b : Nat} (h : BoxG E mc w b) (hb : Below w.heap.size w w') : BoxG E mc w' b := (hb.block b h.lt).trans h

structure BookF (fi : Nat) (T E : TypeId) (k : Nat) (mk : Nat → List Value) (N : Nat) (vs : List Value) (vi : Value) (w : World) : Prop where
  cf : w.cell? ⟨N, fi, none⟩ = some vi
  cn : ∀ j, j < 3 → j ≠ fi → w.cell? ⟨N, j, none⟩ = some (.slice none 0 0)
  fz : ∀ j, w.frozen? ⟨N, j, none⟩ = false
  nk : ∀ cur, w.heap[N]? ≠ some (.cells cur E (0, 0))
  row : w.ownsRow (N + 1) T 1 vi vs.length vs
  ms : ∀ (i : Nat) (v : Value), vs[i]? = some v → GS E k (mk (i / 4)) w v
section
variable {fi : Nat} {T E : TypeId} {k : Nat} {mk : Nat → List Value} {N : Nat} {vs : List Value} {vi : Value}
theorem BookF.nlt {w : World} (h : BookF fi T E k mk N vs vi w) : N < w.heap.size := block_lt_of_cell h.cf
theorem BookF.above {w w' : World} (h : BookF fi T E k mk N vs vi w) (hb : Below w.heap.size w w') : BookF fi T E k mk N vs vi w' := by
  have hN := hb.block N h.nlt
  exact ⟨(World.cell?_of_block hN).trans h.cf, fun j h1 h2 => (World.cell?_of_block hN).trans (h.cn j h1 h2), fun j => (World.frozen?_of_block hN).trans (h.fz j), fun cur => by rw [hN]; exact h.nk cur,
    own_grow h.row hb, fun i v hi => (h.ms i v hi).block (fun g hg _ => hb.block g hg)⟩
theorem bookF_add (hTE : T ≠ E) {q : Nat} {w3 w5 : World} (hbk : BookF fi T E k mk N vs vi w3) (g c : Nat) (l4 : List Value) (o : Obj) (h4 : l4.length = 4)
    (ho : w5.ownsRow (N + 1) T 1 (.slice (some ⟨g, 0, none⟩) (vs.length + 4) c) (vs.length + 4) (vs ++ l4)) (hg : (w3.alloc o).grownBy w5 vi.ownBlock) (hms : ∀ v ∈ l4, GS E k (mk q) w3 v) (hq : vs.length = 4 * q) :
    BookF fi T E k mk N (vs ++ l4) (.slice (some ⟨g, 0, none⟩) (vs.length + 4) c) (w5.setCell ⟨N, fi, none⟩ (.slice (some ⟨g, 0, none⟩) (vs.length + 4) c)) := by
  have hN3 := hbk.nlt
  have hNv : some N ≠ vi.ownBlock := fun e => by have := (row_lt hbk.row N e.symm).1; omega
  have hN5 : w5.heap[N]? = w3.heap[N]? := (hg.block N (by rw [size_alloc1]; omega) hNv).trans (Below.heap_alloc w3 _ N hN3)
  have hgN : g ≠ N := by have := (row_lt ho g rfl).1; omega
  have hint : ∀ k, k < w3.heap.size → (∃ cur, w3.heap[k]? = some (.cells cur E (0, 0))) → (w5.setCell ⟨N, fi, none⟩ (.slice (some ⟨g, 0, none⟩) (vs.length + 4) c)).heap[k]? = w3.heap[k]? := fun k hk ⟨cur, hc⟩ => by
    have hkN : k ≠ N := fun e => hbk.nk cur (e ▸ hc)
    have hkv : some k ≠ vi.ownBlock := fun e => by
      obtain ⟨c2, t2⟩ := ownsRow_kind hbk.row k e.symm
      rw [hc] at t2
      simp at t2
      exact hTE t2.2.symm
    exact (heap_set_other w5 _ hkN).trans ((hg.block k (by rw [size_alloc1]; omega) hkv).trans (Below.heap_alloc w3 _ k hk))
  have k1 : ∀ j, w5.cell? ⟨N, j, none⟩ = w3.cell? ⟨N, j, none⟩ := fun j => World.cell?_of_block hN5
  refine ⟨cell_set_same ((k1 fi).trans hbk.cf), fun j h1 h2 => cell_of_rows ((k1 j).trans (hbk.cn j h1 h2)) h2, fun j => by rw [World.frozen?_setCell]; exact (World.frozen?_of_block hN5).trans (hbk.fz j), fun cur hc => ?_, ?_, fun i v hi => ?_⟩
  · obtain ⟨c2, t2, fr2, hc2⟩ := cells_of_cell hbk.cf
    rw [← hN5] at hc2
    rw [setCell_eq_setRow w5 N fi c2 t2 fr2 _ hc2, setRow_heap w5 N c2 _ t2 fr2 hc2] at hc
    cases hc
    exact hbk.nk c2 (hN5 ▸ hc2)
  · rw [List.length_append, h4]
    exact ownsRow_keep ho (fun k hk => by cases hk; exact heap_set_other w5 _ hgN)
  · by_cases hlt : i < vs.length
    · rw [List.getElem?_append_left hlt] at hi
      exact (hbk.ms i v hi).block hint
    · rw [List.getElem?_append_right (by omega)] at hi
      have hlt2 := (List.getElem?_eq_some_iff.1 hi).1
      have e : i / 4 = q := by omega
      rw [e]
      exact (hms v (List.mem_of_getElem? hi)).block hint
end
end Go.Proofs.YtmmflekajbeamaaDoor

namespace Go.Proofs.YtmmflekajbeamaaDoor
open Go.RowKit

set_option maxRecDepth 100000 in
set_option maxHeartbeats 1000000 in
theorem markInt_any (n : Int) (w : World) (h0 : 0 ≤ n) (h1 : n ≤ 100000) :
    Calls Tryd.prog 73 #[.int .i64 n] w fun e' w' => e' = .returned (.int .i64 (-1000 - n)) ∧ w' = w := by
  go_enter Tryd.func73, Tryd.ntmps73
  go_wp2
  go_ret
  exact ⟨rfl, rfl⟩
end Go.Proofs.YtmmflekajbeamaaDoor

namespace Go.Proofs.YtmmflekajbeamaaDoor
open Go.RowKit

def pmk (m : Int) : List Value := [.int .i64 m, .int .i64 m, .int .i64 0, .int .i64 0, .int .i64 0]
def pmq (q : Nat) : List Value := pmk (-1000 - 4 * (q : Int))
set_option maxRecDepth 100000 in
set_option maxHeartbeats 1000000 in
theorem markPut_any (n : Int) (w : World) (h0 : 0 ≤ n) (h1 : n ≤ 100000) :
    Calls Tryd.prog 74 #[.int .i64 n] w fun e' w' => e' = .returned (.agg #[.int .i64 (-1000 - n), .int .i64 (-1000 - n), .int .i64 0, .int .i64 0, .int .i64 0]) ∧ Below w.heap.size w w' := by
  have HM := hide (fun w' => markInt_any n w' h0 h1)
  have HB := hide (fun o => (Below.refl w.heap.size w).alloc (Nat.le_refl _) o)
  generalize -1000 - n = m at *
  go_enter Tryd.func74, Tryd.ntmps74
  go_wp2_with fail
  refine (unhide HM _).mono ?_
  rintro e w' ⟨rfl, hw⟩
  obtain rfl := hw.symm
  go_wp2_with fail
  refine (unhide HM _).mono ?_
  rintro e w' ⟨rfl, hw⟩
  obtain rfl := hw.symm
  go_wp2_with fail
  exact bodyPost_ret (v := .agg #[.int .i64 m, .int .i64 m, .int .i64 0, .int .i64 0, .int .i64 0]) (by simp [results, Tryd.results74, go_sem]) rfl ⟨rfl, HB.out _⟩

set_option maxRecDepth 100000 in
set_option maxHeartbeats 2000000 in
theorem samePuts_yes (a b : Value) (B B' : Nat) (ps : List PutN) (w : World) (ha : w.ownsRow B 59 5 a ps.length (putCs ps)) (hb : w.ownsRow B' 59 5 b ps.length (putCs ps)) (hl : ps.length ≤ 128) :
    Calls Tryd.prog 50 #[a, b] w fun e' w' => e' = .returned (.bool true) ∧ Below w.heap.size w w' := by
  obtain ⟨aa, ac, rfl⟩ := owns_len ha
  obtain ⟨ba, bc, rfl⟩ := owns_len hb
  have HA := hide ha; have HB := hide hb
  clear ha hb
  go_enter Tryd.func50, Tryd.ntmps50
  go_wp2_with fail
  go_loopw [5] (fun i wr => ∃ k : Nat, k ≤ ps.length ∧ i = .int .i64 k ∧ Below w.heap.size w wr) (fun i _ => ps.length - (intOf i).toNat)
  case atStart => exact ⟨0, Nat.zero_le _, rfl, Below.refl _ _⟩
  case round =>
    obtain ⟨k, hk, rfl, hbl⟩ := hrel
    have HBl := hide hbl
    by_cases hlt : k < ps.length
    · have hlt' : (k : Int) < (ps.length : Int) := by omega
      obtain ⟨g1, c1, hf1, _, hg1⟩ := HA.out.form (by omega)
      obtain ⟨g2, c2, hf2, _, hg2⟩ := HB.out.form (by omega)
      cases hf1
      cases hf2
      have hpk : ps[k]? = some ps[k] := List.getElem?_eq_getElem hlt
      obtain ⟨x0, x1, x2, x3, x4⟩ := put_cells (own_grow HA.out hbl) k ps[k] hpk
      obtain ⟨y0, y1, y2, y3, y4⟩ := put_cells (own_grow HB.out hbl) k ps[k] hpk
      generalize ps[k] = p at *
      obtain ⟨p0, p1, p2, p3, p4⟩ := p
      simp only at x0 x1 x2 x3 x4 y0 y1 y2 y3 y4
      clear hbl hpk
      go_wp2_with fail
      go_quiet (fail)
      go_wp2_with fail
      exact ⟨⟨k + 1, by omega, by go_num, below_drewN HBl.out nq⟩, by simp [intOf]; omega⟩
    · have hlt' : ¬ (k : Int) < (ps.length : Int) := by omega
      clear hbl
      go_wp2_with fail
      go_ret
      exact ⟨rfl, HBl.out⟩
end Go.Proofs.YtmmflekajbeamaaDoor

namespace Go.Proofs.YtmmflekajbeamaaDoor
open Go.RowKit

theorem pmk_one (m : Int) : ∀ u ∈ pmk m, u.oneCell' = true := fun u hu => by simp [pmk] at hu; rcases hu with rfl | rfl <;> rfl
theorem pfill (m : Int) (xs : List Value) (n k : Nat) (hl : xs.length = n * 5) (hk : k < n) :
    (((((gks (pmk m) k ++ xs.drop (k * 5)).set (k * 5) (.int .i64 m)).set (k * 5 + 1) (.int .i64 m)).set (k * 5 + 1 + 1) (.int .i64 0)).set (k * 5 + 1 + 1 + 1) (.int .i64 0)).set (k * 5 + 1 + 1 + 1 + 1) (.int .i64 0) = gks (pmk m) (k + 1) ++ xs.drop ((k + 1) * 5) := by
  have hg : (gks (pmk m) k).length = k * 5 := gks_len rfl k
  obtain ⟨a, b, c, d, e, r, hr⟩ : ∃ a b c d e r, xs.drop (k * 5) = a :: b :: c :: d :: e :: r := by
    have h5 : 5 ≤ (xs.drop (k * 5)).length := by rw [List.length_drop]; omega
    match xs.drop (k * 5), h5 with
    | a :: b :: c :: d :: e :: r, _ => exact ⟨a, b, c, d, e, r, rfl⟩
  have hr2 : xs.drop ((k + 1) * 5) = r := by
    rw [show (k + 1) * 5 = k * 5 + 5 by omega, ← List.drop_drop, hr]
    rfl
  rw [hr, hr2, ← gks_add k 1, show gks (pmk m) 1 = pmk m from by simp [gks]]
  generalize gks (pmk m) k = G at hg ⊢
  subst_vars
  rw [← hg]
  simp only [Nat.add_assoc]
  rw [List.set_append_right _ _ (by omega), List.set_append_right _ _ (by omega), List.set_append_right _ _ (by omega), List.set_append_right _ _ (by omega), List.set_append_right _ _ (by omega), List.append_assoc]
  simp only [Nat.sub_self, Nat.add_sub_cancel_left]
  rfl
theorem infoSlP : ∃ i, Tryd.prog.info? 61 = some i ∧ i.zero = some (.slice none 0 0) ∧ i.size = 1 ∧ i.bytes = 24 := by
  have h : (Tryd.prog.info? 61).map (fun i => (i.zero, i.size, i.bytes)) = some (some (.slice none 0 0), 1, 24) := by kernel_rfl
  cases hq : Tryd.prog.info? 61 with
  | none => rw [hq] at h; cases h
  | some i =>
    rw [hq] at h
    simp only [Option.map_some, Option.some.injEq, Prod.mk.injEq] at h
    exact ⟨i, rfl, h.1, h.2.1, h.2.2⟩
theorem pbox_cells {m : Int} {w : World} {b : Nat} (h : BoxG 59 (pmk m) w b) : w.cell? ⟨b, 0, none⟩ = some (.int .i64 m) ∧ w.cell? ⟨b, 1, none⟩ = some (.int .i64 m) ∧ w.cell? ⟨b, 2, none⟩ = some (.int .i64 0) ∧ w.cell? ⟨b, 3, none⟩ = some (.int .i64 0) ∧ w.cell? ⟨b, 4, none⟩ = some (.int .i64 0) :=
  ⟨h.cell 0, h.cell 1, h.cell 2, h.cell 3, h.cell 4⟩

set_option maxRecDepth 100000 in
set_option maxHeartbeats 8000000 in
theorem keepPuts_any (N q : Nat) (vs : List Value) (vi : Value) (w0 w : World) (h0 : BookF 1 61 59 5 pmq N vs vi w0) (hb : Below w0.heap.size w0 w) (hq : vs.length = 4 * q) (hq2 : q ≤ 100) (l : Value) (ps : List PutN) (hl : w.ownsRow w0.heap.size 59 5 l ps.length (putCs ps)) (hpl : ps.length ≤ 128) :
    Calls Tryd.prog 51 #[.pointer (some ⟨N, 0, none⟩), l] w fun e' w' => e' = .returned (.tuple #[]) ∧ (∃ vs' vi', BookF 1 61 59 5 pmq N vs' vi' w' ∧ vs'.length = 4 * (q + 1)) ∧ Below N w0 w' := by
  have hW := h0.above hb
  obtain ⟨ia, ic, rfl⟩ := owns_len h0.row
  obtain ⟨la, lc, rfl⟩ := owns_len hl
  have c0 := hW.cf
  have hNw := hW.nlt
  have hmk : ((vs.length : Nat) : Int) ≤ 100000 := by omega
  have HMk := hide (fun w' => markPut_any (vs.length : Int) w' (by omega) hmk)
  obtain ⟨m, hm⟩ : ∃ m : Int, m = -1000 - (vs.length : Int) := ⟨_, rfl⟩
  rw [← hm] at HMk
  have HPm : Hid (pmq q = pmk m) := by unfold Hid pmq; rw [hm, hq]; congr 1
  have HQ := hide hq
  have hvl : vs.length ≤ 400 := by omega
  have H0 := hide h0; have HB := hide hb; have HL := hide hl
  have hBw := hb.size
  obtain ⟨inf, hinf, hz, hsz1, hby⟩ := infoSlP
  have HInf := hide hinf; have HZ := hide hz; have HSz := hide hsz1; have HBy := hide hby
  clear hinf hz hsz1 hby
  obtain ⟨inp, hinf, hz, hsz1, hby⟩ := infoPut
  have HInp := hide hinf; have HZp := hide hz; have HSp := hide hsz1; have HByp := hide hby
  have hxl : (putCs ps).length = ps.length * 5 := flat_len (fun p => (putV p).toList) 5 (fun _ => rfl) ps
  clear h0 hb hl hW hm hq hinf hz hsz1 hby
  go_enter Tryd.func51, Tryd.ntmps51
  go_wp2_with fail
  refine (unhide HMk _).mono ?_
  rintro e wa ⟨rfl, hba⟩
  obtain ⟨W, hW⟩ : ∃ W, W = wa.alloc (.cells #[.int .i64 m, .int .i64 m, .int .i64 0, .int .i64 0, .int .i64 0] 59) := ⟨_, rfl⟩
  have hbW : Below w.heap.size w W := by rw [hW]; exact hba.alloc hba.size _
  have HBx : Hid (BoxG 59 (pmk m) W wa.heap.size) := by unfold Hid; rw [hW]; exact _root_.Go.heap_alloc_new wa _
  have HBW := hide hbW
  have HWe := hide hW
  have hsa := hba.size
  have hsW : W.heap.size = wa.heap.size + 1 := by rw [hW, size_alloc1]
  have HLW := hide (own_grow HL.out hbW)
  clear hba hbW hW
  go_wp2_with fail
  rw [← HWe.out]
  go_loopw [5] (fun i wr => ∃ k : Nat, k ≤ ps.length ∧ i = .int .i64 k ∧ wr.ownsRow w0.heap.size 59 5 (.slice la ps.length lc) ps.length (gks (pmk m) k ++ (putCs ps).drop (k * 5)) ∧ KG 59 5 (pmk m) w0.heap.size W wr) (fun i _ => ps.length - (intOf i).toNat)
  case atStart => exact ⟨0, Nat.zero_le _, rfl, HLW.out, KG.refl _ _⟩
  case round =>
    obtain ⟨k, hk, rfl, hown, hkm⟩ := hrel
    have HO := hide hown; have HKm := hide hkm
    have hbx := HBx.out.kg rfl hkm
    obtain ⟨b0, b1, b2, b3, b4⟩ := pbox_cells hbx
    by_cases hlt : k < ps.length
    · have hlt' : (k : Int) < (ps.length : Int) := by omega
      obtain ⟨g, cc, hf, _, hgl⟩ := hown.form (by omega)
      cases hf
      have hcell : ∀ j, j < 5 → ∃ u, wr.cell? ⟨g, k * 5 + j, none⟩ = some u := fun j hj => by
        rw [hown.cellAt (k * 5 + j) (by omega)]
        have : k * 5 + j < (gks (pmk m) k ++ (putCs ps).drop (k * 5)).length := by rw [List.length_append, gks_len rfl, List.length_drop, hxl]; show _ < k * 5 + _; omega
        exact ⟨_, List.getElem?_eq_getElem this⟩
      obtain ⟨u0, h0⟩ := hcell 0 (by decide)
      obtain ⟨u1, h1⟩ := hcell 1 (by decide)
      obtain ⟨u2, h2⟩ := hcell 2 (by decide)
      obtain ⟨u3, h3⟩ := hcell 3 (by decide)
      obtain ⟨u4, h4⟩ := hcell 4 (by decide)
      have h0' : wr.cell? ⟨g, k * 5, none⟩ = some u0 := h0
      have h2' : wr.cell? ⟨g, k * 5 + 1 + 1, none⟩ = some u2 := h2
      have h3' : wr.cell? ⟨g, k * 5 + 1 + 1 + 1, none⟩ = some u3 := h3
      have h4' : wr.cell? ⟨g, k * 5 + 1 + 1 + 1 + 1, none⟩ = some u4 := h4
      have f0 := hown.frozenAt (k * 5); have f1 := hown.frozenAt (k * 5 + 1); have f2 := hown.frozenAt (k * 5 + 1 + 1); have f3 := hown.frozenAt (k * 5 + 1 + 1 + 1); have f4 := hown.frozenAt (k * 5 + 1 + 1 + 1 + 1)
      clear hown hkm h0 h2 h3 h4 hbx hcell
      go_wp2_with fail
      have s1 := HO.out.stored (k * 5) (.int .i64 m)
      have s2 := s1.1.stored (k * 5 + 1) (.int .i64 m)
      have s3 := s2.1.stored (k * 5 + 1 + 1) (.int .i64 0)
      have s4 := s3.1.stored (k * 5 + 1 + 1 + 1) (.int .i64 0)
      have s5 := s4.1.stored (k * 5 + 1 + 1 + 1 + 1) (.int .i64 0)
      have hst := s5.1
      rw [pfill m (putCs ps) ps.length k hxl hlt] at hst
      have q1 := KG.store (mc := pmk m) HO.out (k * 5) (u := .int .i64 m) (by rw [show k * 5 % 5 = 0 by omega]; rfl)
      have q2 := KG.store (mc := pmk m) s1.1 (k * 5 + 1) (u := .int .i64 m) (by rw [show (k * 5 + 1) % 5 = 1 by omega]; rfl)
      have q3 := KG.store (mc := pmk m) s2.1 (k * 5 + 1 + 1) (u := .int .i64 0) (by rw [show (k * 5 + 1 + 1) % 5 = 2 by omega]; rfl)
      have q4 := KG.store (mc := pmk m) s3.1 (k * 5 + 1 + 1 + 1) (u := .int .i64 0) (by rw [show (k * 5 + 1 + 1 + 1) % 5 = 3 by omega]; rfl)
      have q5 := KG.store (mc := pmk m) s4.1 (k * 5 + 1 + 1 + 1 + 1) (u := .int .i64 0) (by rw [show (k * 5 + 1 + 1 + 1 + 1) % 5 = 4 by omega]; rfl)
      exact ⟨⟨k + 1, by omega, by go_num, hst, ((((HKm.out.trans q1).trans q2).trans q3).trans q4).trans q5⟩, by simp [intOf]; omega⟩
    · have hkn : k = ps.length := by omega
      subst hkn
      have hlt' : ¬ (ps.length : Int) < (ps.length : Int) := by omega
      have HO1 : Hid (wr.ownsRow w0.heap.size 59 5 (.slice la ps.length lc) ps.length (gks (pmk m) ps.length)) := by
        have : (putCs ps).drop (ps.length * 5) = [] := List.drop_of_length_le (by omega)
        rw [this, List.append_nil] at hown
        exact hown
      have hsz := hkm.below.size
      clear hown hkm HO
      clear hbx
      go_wp2_with (first | (at_builtin; refine wpList_append_g (mc := pmk m) (E := 59) (k := 5) (by' := 40) Tryd.underlying61 HInp.out HZp.out HSp.out HByp.out rfl (by decide) rfl (by decide) (pmk_one m) _ rfl _ _ rfl w0.heap.size (.slice la ps.length lc) ps.length 1 1 rfl (HO1.out.alloc _) ⟨wr.heap.size, 0, none⟩ rfl (gks_news wr _ 1 _ rfl) (by omega) (by rw [size_alloc1]; omega) ?_; intro a1 c1 w1 ho1 hk1; have HK1 := hide (HKm.out.trans ((KG.above (E := 59) (k := 5) (mc := pmk m) (B := w0.heap.size) (by omega) ((Below.refl wr.heap.size wr).alloc (Nat.le_refl _) _)).trans hk1)); have HG1 := hide (own_gs (E := 59) (k := 5) (mc := pmk m) rfl (by decide) ho1 (by omega)); have HT1 := hide ((KG.above (E := 59) (k := 5) (mc := pmk m) (B := w0.heap.size) (by omega) ((Below.refl wr.heap.size wr).alloc (Nat.le_refl _) _)).trans hk1); have HL1 := hide (own_kg (E := 59) (k := 5) (mc := pmk m) rfl (by decide) (HO1.out.alloc _) hk1); have hs1 := hk1.below.size; rw [size_alloc1] at hs1; clear ho1 hk1; obtain ⟨y10, y11, y12, y13, y14⟩ := pbox_cells (HBx.out.kg rfl HK1.out)) | (at_builtin; refine wpList_append_g (mc := pmk m) (E := 59) (k := 5) (by' := 40) Tryd.underlying61 HInp.out HZp.out HSp.out HByp.out rfl (by decide) rfl (by decide) (pmk_one m) _ rfl _ _ rfl w0.heap.size (.slice la ps.length lc) ps.length 2 2 rfl (HL1.out.alloc _) ⟨w1.heap.size, 0, none⟩ rfl (gks_news w1 _ 2 _ rfl) (by omega) (by rw [size_alloc1]; omega) ?_; intro a2 c2 w2 ho2 hk2; have HK2 := hide (HK1.out.trans ((KG.above (E := 59) (k := 5) (mc := pmk m) (B := w0.heap.size) (by omega) ((Below.refl w1.heap.size w1).alloc (Nat.le_refl _) _)).trans hk2)); have HG2 := hide (own_gs (E := 59) (k := 5) (mc := pmk m) rfl (by decide) ho2 (by omega)); have HT2 := hide ((KG.above (E := 59) (k := 5) (mc := pmk m) (B := w0.heap.size) (by omega) ((Below.refl w1.heap.size w1).alloc (Nat.le_refl _) _)).trans hk2); have HL2 := hide (own_kg (E := 59) (k := 5) (mc := pmk m) rfl (by decide) (HL1.out.alloc _) hk2); have hs2 := hk2.below.size; rw [size_alloc1] at hs2; clear ho2 hk2; obtain ⟨y20, y21, y22, y23, y24⟩ := pbox_cells (HBx.out.kg rfl HK2.out)) | (at_builtin; refine wpList_append_g (mc := pmk m) (E := 59) (k := 5) (by' := 40) Tryd.underlying61 HInp.out HZp.out HSp.out HByp.out rfl (by decide) rfl (by decide) (pmk_one m) _ rfl _ _ rfl w0.heap.size (.slice la ps.length lc) ps.length 3 3 rfl (HL2.out.alloc _) ⟨w2.heap.size, 0, none⟩ rfl (gks_news w2 _ 3 _ rfl) (by omega) (by rw [size_alloc1]; omega) ?_; intro a3 c3 w3 ho3 hk3; have HK3 := hide (HK2.out.trans ((KG.above (E := 59) (k := 5) (mc := pmk m) (B := w0.heap.size) (by omega) ((Below.refl w2.heap.size w2).alloc (Nat.le_refl _) _)).trans hk3)); have HG3 := hide (own_gs (E := 59) (k := 5) (mc := pmk m) rfl (by decide) ho3 (by omega)); have HT3 := hide ((KG.above (E := 59) (k := 5) (mc := pmk m) (B := w0.heap.size) (by omega) ((Below.refl w2.heap.size w2).alloc (Nat.le_refl _) _)).trans hk3); have HL3 := hide (own_kg (E := 59) (k := 5) (mc := pmk m) rfl (by decide) (HL2.out.alloc _) hk3); have hs3 := hk3.below.size; rw [size_alloc1] at hs3; clear ho3 hk3; have HBk := hide (H0.out.above (HB.out.trans ((HBW.out.mono (by omega)).trans HK3.out.below))); have d0 := HBk.out.cf; have df := HBk.out.fz 1; have hN3 := HBk.out.nlt) | (at_builtin; refine wpList_append_lies _ rfl _ _ 24 rfl (N + 1) 61 inf _ 1 24 Tryd.underlying24 HInf.out HZ.out HSz.out HBy.out rfl (by decide) (.slice ia vs.length ic) vs.length vs rfl (HBk.out.row.alloc _) ⟨w3.heap.size, 0, none⟩ 4 4 [.slice la ps.length lc, .slice a1 (ps.length + 1) c1, .slice a2 (ps.length + 2) c2, .slice a3 (ps.length + 3) c3] rfl rfl (World.news_of_block (_root_.Go.heap_alloc_new w3 _)) (fun u hu => by simp at hu; rcases hu with rfl | rfl | rfl | rfl <;> rfl) (by decide) (by unfold maxLen; omega) (by omega) (by rw [size_alloc1]; omega) (w3.heap.size + 1) (by rw [size_alloc1]) ?_; intro g5 c5 w5 ho5 hg5 ha5 hl5; have HO5 := hide ho5; have HG5 := hide hg5; have k5 : w5.cell? ⟨N, 1, none⟩ = some (.slice ia vs.length ic) := (hg5.cell_far ⟨N, 1, none⟩ (by rw [size_alloc1]; show N < _; omega) (fun e => by have := (row_lt HBk.out.row N e.symm).1; omega)).trans ((World.cell?_of_block (Below.heap_alloc w3 _ N hN3)).trans d0); have kf5 : w5.frozen? ⟨N, 1, none⟩ = false := (hg5.frozen_far ⟨N, 1, none⟩ (by rw [size_alloc1]; show N < _; omega) (fun e => by have := (row_lt HBk.out.row N e.symm).1; omega)).trans ((World.frozen?_of_block (Below.heap_alloc w3 _ N hN3)).trans df); clear ho5 hg5 ha5))
      have M0 : GS 59 5 (pmk m) w3 (.slice la ps.length lc) := own_gs (E := 59) (k := 5) (mc := pmk m) rfl (by decide) HL3.out (by omega)
      have M1 : GS 59 5 (pmk m) w3 (.slice a1 (ps.length + 1) c1) := (HG1.out.kg HT2.out).kg HT3.out
      have M2 : GS 59 5 (pmk m) w3 (.slice a2 (ps.length + 2) c2) := HG2.out.kg HT3.out
      have M3 : GS 59 5 (pmk m) w3 (.slice a3 (ps.length + 3) c3) := HG3.out
      have hfin := bookF_add (by decide) (q := q) HBk.out g5 c5 _ _ rfl HO5.out HG5.out (fun v hv => by
        rw [HPm.out]
        simp at hv
        rcases hv with rfl | rfl | rfl | rfl
        · exact M0
        · exact M1
        · exact M2
        · exact M3) HQ.out
      go_end0
      refine ⟨rfl, ⟨_, ⟨_, hfin⟩, ?_⟩, ?_⟩
      · have := HQ.out
        simp
        omega
      · have hN0 := H0.out.nlt
        have b3 : Below N w0 w3 := (HB.out.trans ((HBW.out.mono (by omega)).trans HK3.out.below)).mono (by omega)
        exact ((b3.alloc (by omega) _).grown HG5.out (by rw [size_alloc1]; omega) (fun j hj => by have := (row_lt HBk.out.row j hj).1; omega)).setCell (p := ⟨N, 1, none⟩) (Nat.le_refl _) _
end Go.Proofs.YtmmflekajbeamaaDoor

namespace Go.Proofs.YtmmflekajbeamaaDoor
open Go.RowKit

abbrev BookP (N : Nat) (vs : List Value) (vi : Value) (w : World) : Prop := BookF 1 61 59 5 pmq N vs vi w

set_option maxRecDepth 100000 in
set_option maxHeartbeats 4000000 in
theorem lookPuts_f (N : Nat) (vs : List Value) (vi : Value) (w : World) (h : BookP N vs vi w) (hl : vs.length ≤ 400) :
    Calls Tryd.prog 43 #[.pointer (some ⟨N, 0, none⟩)] w fun e' w' => e' = .returned (.bool true) ∧ Below w.heap.size w w' := by
  obtain ⟨ia, ic, rfl⟩ := owns_len h.row
  have H := hide h
  have hNl := h.nlt
  have c1w := h.cf
  clear h
  go_enter Tryd.func43, Tryd.ntmps43
  go_wp2_with fail
  go_loopw [3] (fun i wr => ∃ k : Nat, k ≤ vs.length ∧ i = .int .i64 k ∧ Below w.heap.size w wr) (fun i _ => vs.length - (intOf i).toNat)
  case atStart => exact ⟨0, Nat.zero_le _, rfl, Below.refl _ _⟩
  case round =>
    obtain ⟨k, hk, rfl, hbl⟩ := hrel
    have HBl := hide hbl
    have hwz := hbl.size
    have HR := hide (H.out.above hbl)
    have c1 := HR.out.cf
    clear c1w
    by_cases hlt : k < vs.length
    · have hlt' : (k : Int) < (vs.length : Int) := by omega
      obtain ⟨g, c, hf, _, hgl⟩ := HR.out.row.form (by omega)
      cases hf
      obtain ⟨v, hv⟩ : ∃ v, vs[k]? = some v := ⟨vs[k], by simp [hlt]⟩
      have hcell : wr.cell? ⟨g, k, none⟩ = some v := (HR.out.row.cellAt k (by omega)).trans hv
      obtain ⟨a, n, cc, rfl, hnb, hms⟩ := HR.out.ms k v hv
      have HMs := hide hms
      clear hms hv hbl
      have HMk2 := hide (fun w' => markPut_any ((k : Int) / 4 * 4) w' (by omega) (by omega))
      have hme : -1000 - (k : Int) / 4 * 4 = -1000 - 4 * ((k / 4 : Nat) : Int) := by omega
      rw [hme] at HMk2
      unfold pmq at HMs
      generalize -1000 - 4 * ((k / 4 : Nat) : Int) = m at *
      clear hme
      have hNr := HR.out.nlt
      go_wp2_with fail
      refine (unhide HMk2 _).mono ?_
      rintro e w1 ⟨rfl, hb1⟩
      have hs1 := hb1.size
      obtain ⟨W, hW⟩ : ∃ W, W = w1.alloc (.cells #[.int .i64 m, .int .i64 m, .int .i64 0, .int .i64 0, .int .i64 0] 59) := ⟨_, rfl⟩
      have HWe := hide hW
      have hbW : Below wr.heap.size wr W := by rw [hW]; exact hb1.alloc hs1 _
      have HBW := hide hbW
      have HBx : Hid (BoxG 59 (pmk m) W w1.heap.size) := by unfold Hid; rw [hW]; exact _root_.Go.heap_alloc_new w1 _
      have hsW : W.heap.size = w1.heap.size + 1 := by rw [hW, size_alloc1]
      clear hb1 hbW hW
      go_wp2_with fail
      rw [← HWe.out]
      obtain ⟨wo, hwo⟩ : ∃ wo, wo = wr := ⟨_, rfl⟩
      subst hwo
      go_loopw [5] (fun j wr2 => ∃ i : Nat, i ≤ n ∧ j = .int .i64 i ∧ Below W.heap.size W wr2) (fun j _ => n - (intOf j).toNat)
      case atStart => exact ⟨0, Nat.zero_le _, rfl, Below.refl _ _⟩
      case round =>
        obtain ⟨wr2, hwr2⟩ : ∃ wr2, wr2 = wr := ⟨_, rfl⟩
        subst hwr2
        obtain ⟨i, hi, rfl, hb2⟩ := hrel
        have HB2 := hide hb2
        have hrr : Below wo.heap.size wo wr2 := HBW.out.trans (hb2.mono HBW.out.size)
        have d1 := (below_cell' hrr N 1 hNr).trans c1
        have d2 := (below_cell' hrr g k hgl).trans hcell
        obtain ⟨x0, x1, x2, x3, x4⟩ := pbox_cells (HBx.out.below hb2)
        by_cases hin : i < n
        · have hin' : (i : Int) < (n : Int) := by omega
          obtain ⟨g2, cur, rfl, hg2, hcur⟩ := HMs.out (by omega)
          have hg2' : wr2.heap[g2]? = some (.cells cur 59 (0, 0)) := (hrr.block g2 (Array.getElem?_eq_some_iff.1 hg2).1).trans hg2
          have ce : ∀ j u, j < 5 → (pmk m)[j]? = some u → wr2.cell? ⟨g2, i * 5 + j, none⟩ = some u := fun j u hj hu => by
            rw [cell_of_row wr2 g2 (i * 5 + j) cur _ _ hg2']
            exact hcur (i * 5 + j) u (by omega) (by rw [show (i * 5 + j) % 5 = j by omega]; exact hu)
          have y0 : wr2.cell? ⟨g2, i * 5, none⟩ = some (.int .i64 m) := ce 0 _ (by decide) rfl
          have y1 : wr2.cell? ⟨g2, i * 5 + 1, none⟩ = some (.int .i64 m) := ce 1 _ (by decide) rfl
          have y2 : wr2.cell? ⟨g2, i * 5 + 1 + 1, none⟩ = some (.int .i64 0) := ce 2 _ (by decide) rfl
          have y3 : wr2.cell? ⟨g2, i * 5 + 1 + 1 + 1, none⟩ = some (.int .i64 0) := ce 3 _ (by decide) rfl
          have y4 : wr2.cell? ⟨g2, i * 5 + 1 + 1 + 1 + 1, none⟩ = some (.int .i64 0) := ce 4 _ (by decide) rfl
          clear hg2 hcur hg2' ce hb2 hrr c1 hcell
          go_wp2_with fail
          go_quiet (fail)
          go_wp2_with fail
          exact ⟨⟨i + 1, by omega, by go_num, below_drewN HB2.out nq⟩, by simp [intOf]; omega⟩
        · have hin' : ¬ (i : Int) < (n : Int) := by omega
          have HE : Hid (Below w.heap.size w wr2) := HBl.out.trans (hrr.mono hwz)
          clear hb2 hrr c1 hcell
          go_wp2_with fail
          exact ⟨⟨k + 1, by omega, by go_num, HE.out⟩, by simp [intOf]; omega⟩
    · have hlt' : ¬ (k : Int) < (vs.length : Int) := by omega
      clear hbl
      go_wp2_with fail
      go_ret
      exact ⟨rfl, HBl.out⟩

set_option maxRecDepth 100000 in
set_option maxHeartbeats 2000000 in
theorem lookInts_nil (N : Nat) (w : World) (c0 : w.cell? ⟨N, 0, none⟩ = some (.slice none 0 0)) :
    Calls Tryd.prog 42 #[.pointer (some ⟨N, 0, none⟩)] w fun e' w' => e' = .returned (.bool true) ∧ w' = w := by
  go_enter Tryd.func42, Tryd.ntmps42
  go_wp2_with fail
  go_loop [3] (fun i => i = .int .i64 0) (fun _ => 0)
  case atStart => rfl
  case round =>
    subst hrel
    go_wp2_with fail
    go_ret
    exact ⟨rfl, rfl⟩
set_option maxRecDepth 100000 in
set_option maxHeartbeats 2000000 in
theorem lookPlans_nil (N : Nat) (w : World) (c2 : w.cell? ⟨N, 2, none⟩ = some (.slice none 0 0)) :
    Calls Tryd.prog 44 #[.pointer (some ⟨N, 0, none⟩)] w fun e' w' => e' = .returned (.bool true) ∧ w' = w := by
  go_enter Tryd.func44, Tryd.ntmps44
  go_wp2_with fail
  go_loop [3] (fun i => i = .int .i64 0) (fun _ => 0)
  case atStart => rfl
  case round =>
    subst hrel
    go_wp2_with fail
    go_ret
    exact ⟨rfl, rfl⟩
set_option maxRecDepth 100000 in
set_option maxHeartbeats 2000000 in
theorem looks_puts (N : Nat) (vs : List Value) (vi : Value) (w : World) (h : BookP N vs vi w) (hl : vs.length ≤ 400) :
    Calls Tryd.prog 13 #[.pointer (some ⟨N, 0, none⟩)] w fun e' w' => e' = .returned (.bool true) ∧ Below w.heap.size w w' := by
  have HI := hide (lookInts_nil N w (h.cn 0 (by decide) (by decide)))
  have HP := hide (lookPuts_f N vs vi w h hl)
  have H := hide h
  clear h
  go_enter Tryd.func13, Tryd.ntmps13
  go_wp2_with fail
  refine (unhide HI).mono ?_
  rintro e w' ⟨rfl, hw⟩
  obtain rfl := hw.symm
  go_wp2_with fail
  refine (unhide HP).mono ?_
  rintro e w1 ⟨rfl, hb1⟩
  have HL := hide (lookPlans_nil N w1 ((H.out.above hb1).cn 2 (by decide) (by decide)))
  have HB := hide hb1
  clear hb1
  go_wp2_with fail
  refine (unhide HL).mono ?_
  rintro e w' ⟨rfl, hw⟩
  obtain rfl := hw.symm
  go_wp2_with fail
  go_ret
  exact ⟨rfl, HB.out⟩

set_option maxRecDepth 100000 in
set_option maxHeartbeats 4000000 in
theorem putsOf_any (s : ByteArray) (N q : Nat) (vs : List Value) (vi : Value) (w : World) (h : BookP N vs vi w) (hq : vs.length = 4 * q) (hq2 : q ≤ 100) (hsm : s.size ≤ maxLen) :
    Calls Tryd.prog 18 #[.pointer (some ⟨N, 0, none⟩), .string s] w fun e' w' => e' = .returned (.bool true) ∧ (∃ vs' vi', BookP N vs' vi' w' ∧ vs'.length = 4 * (q + 1)) ∧ Below N w w' := by
  have HC := hide (cribPuts_any s w hsm)
  have HD := hide (fun w' => refPuts_any s w' hsm)
  have HH := hide h
  have HQ := hide hq
  clear h hq
  go_enter Tryd.func18, Tryd.ntmps18
  go_wp2_with fail
  refine (unhide HC).mono ?_
  rintro e w1 ⟨hb1, ⟨hok, v1, rfl, ho1⟩ | ⟨hno, rfl⟩⟩
  · have HB1 := hide hb1; have HO1 := hide ho1; have HOk := hide hok
    have hz1 := hb1.size
    clear hb1 ho1 hok HC
    go_wp2_with fail
    refine (unhide HD _).mono ?_
    rintro e w2 ⟨hb2, ⟨hok2, v2, rfl, ho2⟩ | ⟨hno2, rfl⟩⟩
    · have HB2 := hide hb2; have HO2 := hide ho2
      have hz2 := hb2.size
      have h10 : s.size / 8 ≤ 10 := by have := HOk.out.2.1; omega
      have hln : (putL s (s.size / 8)).length = s.size / 8 := putL_len s _
      have HO1' : Hid (w2.ownsRow w.heap.size 59 5 v1 (putL s (s.size / 8)).length (putCs (putL s (s.size / 8)))) := by unfold Hid; rw [hln]; exact own_grow HO1.out hb2
      have HSm := hide (samePuts_yes v1 v2 w.heap.size w1.heap.size (putL s (s.size / 8)) w2 HO1'.out (by rw [hln]; exact ho2) (by omega))
      obtain ⟨va, vc, rfl⟩ := owns_len HO1.out
      clear hb2 ho2 HD hok2
      go_wp2_with fail
      refine (unhide HSm).mono ?_
      rintro e w3 ⟨rfl, hb3⟩
      have HBw : Hid (Below w.heap.size w w3) := (HB1.out.trans (HB2.out.mono hz1)).trans (hb3.mono (by omega))
      have HKp := hide (keepPuts_any N q vs vi w w3 HH.out HBw.out HQ.out hq2 (.slice va (s.size / 8) vc) (putL s (s.size / 8)) (own_grow HO1'.out hb3) (by omega))
      have HNm := hide (fun w' => num_any 0 w')
      clear hb3 HSm
      go_wp2_with fail
      refine (unhide HNm _).mono ?_
      rintro e w' ⟨rfl, hw'⟩
      obtain rfl := hw'.symm
      have hlen : ((s.size : Int) / 8 == 0) = true ∨ ((s.size : Int) / 8 == 0) = false := by
        cases ((s.size : Int) / 8 == 0)
        · exact .inr rfl
        · exact .inl rfl
      rcases hlen with hlen | hlen
      all_goals
        go_wp2_with fail
        refine (unhide HKp).mono ?_
        rintro e w4 ⟨rfl, hbk, hbelow⟩
        have HBk := hide hbk; have HBe := hide hbelow
        clear hbk hbelow HKp
        go_wp2_with fail
        go_ret
        exact ⟨rfl, HBk.out, HBe.out⟩
    · exact absurd HOk.out hno2
  · have HB1 := hide hb1; have HNo := hide hno
    have hz1 := hb1.size
    clear hb1 hno HC
    go_wp2_with fail
    refine (unhide HD _).mono ?_
    rintro e w2 ⟨hb2, ⟨hok2, v2, rfl, ho2⟩ | ⟨hno2, rfl⟩⟩
    · exact absurd hok2 HNo.out
    · have HB2 := hide hb2
      have hz2 := hb2.size
      have HV : Hid (w2.ownsRow w.heap.size 59 5 (.slice none 0 0) ([] : List PutN).length (putCs [])) := World.ownsRow_nil _ _ _ _
      have HV2 : Hid (w2.ownsRow w1.heap.size 59 5 (.slice none 0 0) ([] : List PutN).length (putCs [])) := World.ownsRow_nil _ _ _ _
      have HSm := hide (samePuts_yes (.slice none 0 0) (.slice none 0 0) w.heap.size w1.heap.size [] w2 HV.out HV2.out (by decide))
      clear hb2 HD hno2
      go_wp2_with fail
      refine (unhide HSm).mono ?_
      rintro e w3 ⟨rfl, hb3⟩
      have HBw : Hid (Below w.heap.size w w3) := (HB1.out.trans (HB2.out.mono hz1)).trans (hb3.mono (by omega))
      have HKp := hide (keepPuts_any N q vs vi w w3 HH.out HBw.out HQ.out hq2 (.slice none 0 0) [] (own_grow HV.out hb3) (by decide))
      have HNm := hide (fun w' => num_any 11 w')
      clear hb3 HSm
      go_wp2_with fail
      refine (unhide HNm _).mono ?_
      rintro e w' ⟨rfl, hw'⟩
      obtain rfl := hw'.symm
      go_wp2_with fail
      refine (unhide HKp).mono ?_
      rintro e w4 ⟨rfl, hbk, hbelow⟩
      have HBk := hide hbk; have HBe := hide hbelow
      clear hbk hbelow HKp
      go_wp2_with fail
      go_ret
      exact ⟨rfl, HBk.out, HBe.out⟩
end Go.Proofs.YtmmflekajbeamaaDoor
