/-
  Frames: what an area's bytes tell (frame.Scan).
  The engine's book of a list (bookOf).
  Lists of blocks and plans: a list appended to a list; slices.Clone, slices.Concat.
-/
import Derived.Test.YtmmflekajbeamabGreatDoorW18
import Derived.Shelf.Spec.SlicesGrow
import Derived.Deep.Upon
namespace Go.Proofs.YtmmflekajbeamabGreatDoor
open Go.RowKit

theorem zero74 (w : World) : (zeroValue 184).run Tryz.prog w = .ok (.agg (arV 0 false 0 (.slice none 0 0))) w := by kernel_rfl
theorem size74 : (Tryz.prog.info? 184).map (·.size) = some 4 := by kernel_rfl
theorem arV_one (gen : Nat) (whole : Bool) (good : Nat) (v : Value) (hv : v.oneCell' = true) : (arV gen whole good v).all (·.oneCell') = true := by
  simp [arV, Value.oneCell']
  exact hv
theorem own_one {w : World} {B n : Nat} {v : Value} {xs : List Value} {e : TypeId} {k : Nat} (h : w.ownsRow B e k v n xs) : v.oneCell' = true := by
  obtain ⟨a, c, rfl⟩ := owns_len h
  rfl
theorem setRow_alloc_any (w : World) (c c' : Array Value) (t : TypeId) : (w.alloc (.cells c t)).setRow w.heap.size c' = w.alloc (.cells c' t) := setRow_alloc_at _ _ _ _ _ rfl
theorem wpList_storeFA {ops : Array Oper} {rest : List Oper} {o : Oper} {a : Act} {w : World} {Q : Exit → Act → World → Prop} (hgd : o.guard = none) (x y : Operand) (ho : o.op = .store 240 x y)
    (k : Int) (p : ByteArray) (n : Int) (hx : a.eval x = .pointer (some ⟨w.heap.size, 0, none⟩)) (hy : a.eval y = .agg (frV k p n))
    (h : wpList Tryz.prog ops Q rest (a.put o.dst undef) (w.alloc (.cells #[.int .i64 k, .string p, .int .i64 n] 240))) : wpList Tryz.prog ops Q (o :: rest) a (w.alloc (.cells (frV 0 (bya []) 0) 240)) := by
  refine wpList_storeF hgd x y ho w.heap.size k p n hx hy _ (_root_.Go.heap_alloc_new w _) rfl ?_
  rw [setRow_alloc_any]
  exact h
def goodOf (A : Nat) (w : World) : Nat := match w.cell? ⟨A, 2, none⟩ with | some v => (intOf v).toNat | none => 0
theorem ArAt.good {A : Nat} {a : ArN} {v : Value} {w : World} (h : ArAt A a v w) : goodOf A w = a.good := by
  unfold goodOf
  rw [show w.cell? ⟨A, 2, none⟩ = some (.int .i64 (a.good : Int)) from h.cell 2]
  simp [intOf]
theorem arT_grow {a a' : ArN} {k : Nat} {p : List UInt8} (h : arT a k p = some a') : a.list.length ≤ a'.list.length := by
  unfold arT at h
  split at h
  · split at h
    · cases h; exact Nat.le_refl _
    · cases h
  · split at h
    · split at h
      · cases h; simp
      · cases h
    · split at h
      · split at h
        · cases h; exact Nat.le_refl _
        · cases h
      · cases h
theorem scn_grow : ∀ (f : Nat) (a : ArN) (l : List UInt8), a.list.length ≤ (scn f a l).list.length := by
  intro f
  induction f with
  | zero => intro a l; exact Nat.le_refl _
  | succ f ih =>
    intro a l
    rw [scn]
    cases hf : frst l with
    | none => exact Nat.le_refl _
    | some x =>
      obtain ⟨k, p⟩ := x
      simp only
      cases ht : arT a k p with
      | none => exact Nat.le_refl _
      | some a' => exact Nat.le_trans (arT_grow ht) (ih a' _)
/-- Where a reading stands. -/
structure ScI (s : ByteArray) (a : ArN) : Prop where
  le : a.good ≤ s.size
  iff : a.good = 0 ↔ a.gen = 0
  few : a.list.length ≤ a.good
  fewS : a.list.length ≤ (scan (lst s)).list.length
  goes : scn (((lst s).drop a.good).length + 1) a ((lst s).drop a.good) = scan (lst s)
theorem ScI.zero (s : ByteArray) : ScI s ar0 := ⟨Nat.zero_le _, ⟨fun _ => rfl, fun _ => rfl⟩, Nat.le_refl _, Nat.zero_le _, rfl⟩
theorem ScI.stop {s : ByteArray} {a : ArN} (h : ScI s a) (hf : frst ((lst s).drop a.good) = none) : scan (lst s) = a := by rw [← h.goes, scn, hf]
theorem ScI.stop2 {s : ByteArray} {a : ArN} (h : ScI s a) {K : Nat} {q : List UInt8} (hf : frst ((lst s).drop a.good) = some (K, q)) (ht : arT a K q = none) : scan (lst s) = a := by
  rw [← h.goes, scn, hf]
  simp only
  rw [ht]
theorem ScI.step {s : ByteArray} {a a' : ArN} (h : ScI s a) {K : Nat} {q : List UInt8} (hf : frst ((lst s).drop a.good) = some (K, q)) (ht : arT a K q = some a') : ScI s a' ∧ a'.good = a.good + (q.length + 8) := by
  obtain ⟨g1, g2, g3⟩ := arT_good ht
  have hq := (frst_some hf).2.2.2.1
  rw [List.length_drop, lst_len] at hq
  have hle := h.le
  have hgo : scn (((lst s).drop a'.good).length + 1) a' ((lst s).drop a'.good) = scan (lst s) := by
    rw [← h.goes]
    conv => rhs; rw [scn, hf]
    simp only
    rw [ht]
    simp only
    rw [List.drop_drop, ← g1]
    exact (scn_more _ _ a' _ (Nat.lt_succ_self _) (by rw [List.length_drop, List.length_drop, lst_len]; omega)).symm
  exact ⟨⟨by omega, by omega, by have := h.few; omega, by rw [← hgo]; exact scn_grow _ _ _, hgo⟩, g1⟩
/-- What a scanning leaves. -/
def ScanPost (s : ByteArray) (w : World) (e' : Ending) (w' : World) : Prop :=
  Below w.heap.size w w' ∧ ∃ v, e' = .returned (.agg (arV (scan (lst s)).gen (scan (lst s)).whole (scan (lst s)).good v)) ∧ w'.ownsRow w.heap.size 71 2 v (scan (lst s)).list.length (knCs (scan (lst s)).list)
theorem own_base {w : World} {B B' n : Nat} {v : Value} {xs : List Value} {e : TypeId} {k : Nat} (h : w.ownsRow B e k v n xs) (hb : B' ≤ B) : w.ownsRow B' e k v n xs := by
  refine ⟨h.1, ?_⟩
  rcases h.2 with h2 | ⟨g, cap, cur, x1, x2, x3⟩
  · exact .inl h2
  · exact .inr ⟨g, cap, cur, x1, by omega, x3⟩
/-- The end: the area is handed out. -/
theorem scan_end {s : ByteArray} {w wr : World} {a : ArN} {v : Value} (hs : scan (lst s) = a) (ha : ArAt (w.heap.size + 1) a v wr) (hb : Below w.heap.size w wr) (c : Array Value) (hR : wr.heap[w.heap.size]? = some (.cells c 184 (0, 0))) :
    (wr.setRow w.heap.size (arV a.gen a.whole a.good v)).heap[w.heap.size]? = some (.cells (arV a.gen a.whole a.good v) 184 (0, 0)) ∧ ScanPost s w (.returned (.agg (arV a.gen a.whole a.good v))) (wr.setRow w.heap.size (arV a.gen a.whole a.good v)) := by
  refine ⟨setRow_heap wr _ _ _ _ (0, 0) hR, below_setRow hb (Nat.le_refl _) _, v, by rw [hs], ?_⟩
  rw [hs]
  refine own_base (B := w.heap.size + 1 + 1) (ownsRow_keep ha.list (fun g hg => setRow_other _ _ _ _ (fun e => ?_))) (by omega)
  have := (row_lt ha.list g hg).1
  omega

set_option maxRecDepth 100000 in
set_option maxHeartbeats 4000000 in
theorem frScan_any (s : ByteArray) (w : World) (ht : Tab w) (hs : s.size ≤ 4611686018427387904) (hsl : (scan (lst s)).list.length ≤ 1048576) :
    Calls Tryz.prog 128 #[.string s] w (ScanPost s w) := by
  have HSl := hide hsl
  clear hsl
  have zz := zero74
  have zf := zero149
  obtain ⟨W0, hW0⟩ : ∃ W0, W0 = (w.alloc (.cells (arV 0 false 0 (.slice none 0 0)) 184)).alloc (.cells (arV 0 false 0 (.slice none 0 0)) 184) := ⟨_, rfl⟩
  have HW0 := hide hW0
  have hb0 : Below w.heap.size w W0 := by rw [hW0]; exact ((Below.refl _ _).alloc (Nat.le_refl _) _).alloc (by rw [size_alloc1]; omega) _
  have r0 : W0.heap[w.heap.size]? = some (.cells (arV 0 false 0 (.slice none 0 0)) 184 (0, 0)) := by rw [hW0, Below.heap_alloc _ _ _ (by rw [size_alloc1]; omega), _root_.Go.heap_alloc_new]
  have a0 : ArAt (w.heap.size + 1) ar0 (.slice none 0 0) W0 := by
    refine ⟨?_, World.ownsRow_nil _ _ _ _⟩
    rw [hW0]
    have := _root_.Go.heap_alloc_new (w.alloc (.cells (arV 0 false 0 (.slice none 0 0)) 184)) (.cells (arV 0 false 0 (.slice none 0 0)) 184)
    rw [size_alloc1] at this
    exact this
  have HT := hide (fun w' (hb : Below w.heap.size w w') => ht.below ht.pos hb)
  have H0 : Hid (Below w.heap.size w W0 ∧ W0.heap[w.heap.size]? = some (.cells (arV 0 false 0 (.slice none 0 0)) 184 (0, 0)) ∧ ArAt (w.heap.size + 1) ar0 (.slice none 0 0) W0) := ⟨hb0, r0, a0⟩
  clear hb0 r0 a0 hW0 ht
  go_enter Tryz.func128, Tryz.ntmps128
  go_wp2_with fail
  rw [← HW0.out]
  go_loopw [5] (fun _ wr => ∃ (a : ArN) (v : Value), Hid (ScI s a) ∧ Hid (ArAt (w.heap.size + 1) a v wr ∧ wr.heap[w.heap.size]? = some (.cells (arV 0 false 0 (.slice none 0 0)) 184 (0, 0)) ∧ Below w.heap.size w wr)) (fun _ wr => s.size - goodOf (w.heap.size + 1) wr)
  case atStart => exact ⟨ar0, .slice none 0 0, ScI.zero s, H0.out.2.2, H0.out.2.1, H0.out.1⟩
  case round =>
    obtain ⟨a, v, HI, HM⟩ := hrel
    have hA := HM.out.1.lt
    have c2 : wr.cell? ⟨w.heap.size + 1, 2, none⟩ = some (.int .i64 (a.good : Int)) := HM.out.1.cell 2
    have hgl : (a.good : Int) ≤ (s.size : Int) := by have := HI.out.le; omega
    have hg0 : (0 : Int) ≤ (a.good : Int) := by omega
    have HF := hide (frFirst_any (s.extract a.good s.size) wr (by rw [ByteArray.size_extract]; omega))
    have HLs : Hid (lst (s.extract a.good s.size) = (lst s).drop a.good) := by
      unfold Hid
      rw [lst_ext, List.take_of_length_le (by rw [List.length_drop, lst_len]; omega)]
    go_wp2_with fail
    refine (unhide HF).mono ?_
    rintro e w1 ⟨hb1, hf⟩
    unfold FstF at hf
    rw [HLs.out] at hf
    have hz1 := hb1.size
    rcases hf with ⟨hn, rfl⟩ | ⟨K, q, hk, rfl⟩
    · have HSc := hide (HI.out.stop hn)
      have HM1 : Hid (ArAt (w.heap.size + 1) a v (w1.alloc (.cells #[.int .i64 0, .string (bya []), .int .i64 0] 240)) ∧ (w1.alloc (.cells #[.int .i64 0, .string (bya []), .int .i64 0] 240)).heap[w.heap.size]? = some (.cells (arV 0 false 0 (.slice none 0 0)) 184 (0, 0)) ∧ Below w.heap.size w (w1.alloc (.cells #[.int .i64 0, .string (bya []), .int .i64 0] 240))) := by
        have hlw : w.heap.size < wr.heap.size := by omega
        refine ⟨(HM.out.1.above hb1).alloc _, ((Below.heap_alloc w1 _ _ (by omega)).trans (hb1.block _ hlw)).trans HM.out.2.1, (HM.out.2.2.trans (hb1.mono (by omega))).alloc (by omega) _⟩
      have HEnd := hide (scan_end HSc.out HM1.out.1 HM1.out.2.2 _ HM1.out.2.1)
      have hone := arV_one a.gen a.whole a.good v (own_one HM.out.1.list)
      clear hb1 hn HF
      go_wp2_with (first | (refine wpList_storeFA rfl _ _ rfl 0 (bya []) 0 rfl rfl ?_) | (refine wpList_load_row rfl 184 _ rfl (w.heap.size + 1) rfl 184 (arV a.gen a.whole a.good v) (0, 0) _ HM1.out.1.cells Tryz.underlying184 rfl size74 ?_) | (refine wpList_store_row rfl 184 _ _ rfl w.heap.size (arV a.gen a.whole a.good v) rfl rfl 184 _ HM1.out.2.1 size74 rfl hone ?_))
      exact bodyPost_ret (v := .agg (arV a.gen a.whole a.good v)) (results_cell_row Tryz.results128 _ _ w.heap.size 184 _ _ _ rfl HEnd.out.1 Tryz.underlying184 rfl size74) rfl HEnd.out.2
    · have hq200 := (frst_some hk).2.2.1
      have hqle := (frst_some hk).2.2.2.1
      rw [List.length_drop, lst_len] at hqle
      have hle0 := HI.out.le
      obtain ⟨n, hn⟩ : ∃ n : Int, n = ((q.length + 8 : Nat) : Int) := ⟨_, rfl⟩
      rw [← hn]
      have hlw : w.heap.size + 1 < wr.heap.size := hA
      obtain ⟨W2, hW2⟩ : ∃ W2, W2 = w1.alloc (.cells #[.int .i64 (K : Int), .string (bya q), .int .i64 n] 240) := ⟨_, rfl⟩
      have b2 : Below wr.heap.size wr W2 := by rw [hW2]; exact hb1.alloc (by omega) _
      have a2 := HM.out.1.above b2
      have B2 : Below w.heap.size w W2 := HM.out.2.2.trans (b2.mono (by omega))
      have R2 : W2.heap[w.heap.size]? = some (.cells (arV 0 false 0 (.slice none 0 0)) 184 (0, 0)) := (b2.block _ (by omega)).trans HM.out.2.1
      have F2 : W2.heap[w1.heap.size]? = some (.cells #[.int .i64 (K : Int), .string (bya q), .int .i64 n] 240 (0, 0)) := by rw [hW2, _root_.Go.heap_alloc_new]
      have hz2 : w1.heap.size < W2.heap.size := (Array.getElem?_eq_some_iff.1 F2).1
      have HC := hide (frTake_any (w.heap.size + 1) a v K q n W2 a2 (HT.out _ B2) hq200 (by have := HI.out.fewS; have := HSl.out; omega) HI.out.iff)
      have hvl : ∀ g, v.ownBlock = some g → g < wr.heap.size := fun g hg => (row_lt HM.out.1.list g hg).2
      have HVl := hide hvl
      have HW2 := hide hW2; have HB2 := hide B2; have HR2 := hide R2; have HF2 := hide F2; have HK := hide hk; have HNn := hide hn
      clear hb1 HF hW2 b2 a2 B2 R2 F2 hk hvl hn
      generalize bya q = D at *
      go_wp2_with (refine wpList_storeFA rfl _ _ rfl K D n rfl rfl ?_)
      rw [← HW2.out]
      refine (unhide HC).mono ?_
      rintro e w3 ⟨⟨hb3, ho3⟩, ⟨a', v', hr, rfl, ha3, hv3⟩ | ⟨hr, rfl, ha3⟩⟩
      · obtain ⟨hst, hgd⟩ := HI.out.step HK.out hr
        have R3 : w3.heap[w.heap.size]? = some (.cells (arV 0 false 0 (.slice none 0 0)) 184 (0, 0)) := (ho3 _ (by omega) (by omega) (fun e => by have := (row_lt HM.out.1.list _ e).1; omega)).trans HR2.out
        have F3 : w3.heap[w1.heap.size]? = some (.cells #[.int .i64 (K : Int), .string D, .int .i64 n] 240 (0, 0)) := (ho3 _ hz2 (by omega) (fun e => by have := HVl.out _ e; omega)).trans HF2.out
        have k2 : w3.cell? ⟨w1.heap.size, 2, none⟩ = some (.int .i64 n) := cell_row F3 2
        have B3 : Below w.heap.size w w3 := HB2.out.trans (hb3.mono (by omega))
        have g2 : w3.cell? ⟨w.heap.size + 1, 2, none⟩ = some (.int .i64 (a.good : Int)) := ha3.cell 2
        have f2 := ha3.frozen 2
        have hn' : n = (q.length : Int) + 8 := by rw [HNn.out]; omega
        have hsm : (a.good : Int) + n = (a'.good : Int) := by rw [hn', hgd]; omega
        have hnb : (0 : Int) ≤ n ∧ n ≤ 208 := by omega
        have ha4 : ArAt (w.heap.size + 1) a' v' (w3.setCell ⟨w.heap.size + 1, 2, none⟩ (.int .i64 (a'.good : Int))) := ha3.turn (a' := a') 2 _ rfl rfl
        have HA4 := hide ha4
        have HR4 : Hid ((w3.setCell ⟨w.heap.size + 1, 2, none⟩ (.int .i64 (a'.good : Int))).heap[w.heap.size]? = some (.cells (arV 0 false 0 (.slice none 0 0)) 184 (0, 0))) := (heap_set_other _ _ (by omega)).trans R3
        have HB4 : Hid (Below w.heap.size w (w3.setCell ⟨w.heap.size + 1, 2, none⟩ (.int .i64 (a'.good : Int)))) := B3.setCell (p := ⟨w.heap.size + 1, 2, none⟩) (Nat.le_succ _) _
        have HSt := hide hst
        have HGd := hide hgd
        have HMe : Hid (s.size - goodOf (w.heap.size + 1) (w3.setCell ⟨w.heap.size + 1, 2, none⟩ (.int .i64 (a'.good : Int))) < s.size - goodOf (w.heap.size + 1) wr) := by
          unfold Hid
          rw [ha4.good, HM.out.1.good]
          have := hst.le
          omega
        clear hb3 ho3 ha3 hv3 R3 F3 B3 ha4 hst hgd hr HC HK hn'
        go_wp2_with fail
        exact ⟨⟨a', v', HSt.out, HA4.out, HR4.out, HB4.out⟩, HMe.out⟩
      · have HSc := hide (HI.out.stop2 HK.out hr)
        have R3 : w3.heap[w.heap.size]? = some (.cells (arV 0 false 0 (.slice none 0 0)) 184 (0, 0)) := (ho3 _ (by omega) (by omega) (fun e => by have := (row_lt HM.out.1.list _ e).1; omega)).trans HR2.out
        have B3 : Below w.heap.size w w3 := HB2.out.trans (hb3.mono (by omega))
        have HEnd := hide (scan_end HSc.out ha3 B3 _ R3)
        have hone := arV_one a.gen a.whole a.good v (own_one HM.out.1.list)
        have HA3 := hide ha3; have HR3 := hide R3
        clear hb3 ho3 ha3 R3 B3 hr HC HK
        go_wp2_with (first | (refine wpList_load_row rfl 184 _ rfl (w.heap.size + 1) rfl 184 (arV a.gen a.whole a.good v) (0, 0) _ HA3.out.cells Tryz.underlying184 rfl size74 ?_) | (refine wpList_store_row rfl 184 _ _ rfl w.heap.size (arV a.gen a.whole a.good v) rfl rfl 184 _ HR3.out size74 rfl hone ?_))
        exact bodyPost_ret (v := .agg (arV a.gen a.whole a.good v)) (results_cell_row Tryz.results128 _ _ w.heap.size 184 _ _ _ rfl HEnd.out.1 Tryz.underlying184 rfl size74) rfl HEnd.out.2
end Go.Proofs.YtmmflekajbeamabGreatDoor

namespace Go.Proofs.YtmmflekajbeamabGreatDoor
open Go.RowKit Go.Maps Go.WideMaps

theorem bklay_any (B N o : Nat) (l : List KwN) (mv v : Value) (ws : List Nat) (p : ByteArray) (w : World) (h : BoAt B N o l mv v w) (hBN : B ≤ N) (hf : ∀ j, w.frozen? ⟨N, j, none⟩ = false) (hw : wOK ws) (hl : l.length ≤ 1000000000000) :
    Calls Tryz.prog 184 #[.pointer (some ⟨N, o, none⟩), .agg (S (wdZ ws)), .string p] w (LayPost B N o (layB l ws (lst p)) mv v w) := by
  unfold layB
  cases hq : (bkW l).findIdx? (· == ws) with
  | some n =>
    obtain ⟨h1, h2, _⟩ := List.findIdx?_eq_some_iff_getElem.1 hq
    have hn : n < l.length := by unfold bkW at h1; simpa using h1
    have he : l[n].1 = ws := by
      have : (bkW l)[n] = l[n].1 := by simp [bkW]
      rw [this] at h2
      simpa using h2
    have hk : l[n]? = some l[n] := List.getElem?_eq_getElem hn
    have key := lay_yes B N o l mv v n l[n] p w h (Nat.le_trans hBN (Nat.le_of_lt h.lt)) hk hl
    rw [he] at key
    exact key.mono fun e' w' q => ⟨q.1, mv, v, q.2.1, q.2.2, fun g hg => .inl hg⟩
  | none =>
    have hn : ws ∉ bkW l := fun hm => by
      have := List.findIdx?_eq_none_iff.1 hq ws hm
      simp at this
    rcases h.mp with ⟨rfl, rfl⟩ | ⟨b, D, rfl, _⟩
    · exact lay_nil B N o v ws p w h hBN hf hw
    · exact lay_some B N o l b v ws p w h hBN hf hw hn hl
/-- A book's value, without the cells where it lies. -/
structure BoV (B : Nat) (l : List KwN) (mv v : Value) (w : World) : Prop where
  ls : w.ownsRow B 71 2 v l.length (bkCs l)
  ok : ∀ k ∈ l, wOK k.1
  one : ∀ i j : Nat, i < l.length → (bkW l)[i]? = (bkW l)[j]? → i = j
  mp : (mv = .map none ∧ l = []) ∨ ∃ b D, mv = .map (some b) ∧ B ≤ b ∧ w.ownsMap Tryz.prog 131 (plainElem Tryz.prog 3) b l.length D ∧ BoOK D (bkW l)
theorem BoAt.val {B N o : Nat} {l : List KwN} {mv v : Value} {w : World} (h : BoAt B N o l mv v w) : BoV B l mv v w := ⟨h.ls, h.ok, h.one, h.mp⟩
theorem BoV.at' {B N o : Nat} {l : List KwN} {mv v : Value} {w : World} (h : BoV B l mv v w) (c0 : w.cell? ⟨N, o, none⟩ = some mv) (c1 : w.cell? ⟨N, o + 1, none⟩ = some v) (nv : v.ownBlock ≠ some N) : BoAt B N o l mv v w := ⟨c0, c1, nv, h.ls, h.ok, h.one, h.mp⟩
theorem BoV.has {B : Nat} {l : List KwN} {mv v : Value} {w : World} (h : BoV B l mv v w) {g : Nat} (hg : bkHas mv v g) : B ≤ g ∧ g < w.heap.size := by
  rcases hg with hg | hg
  · rcases h.mp with ⟨q, _⟩ | ⟨b, D, q, hb, hm, _⟩
    · rw [q] at hg; cases hg
    · rw [q] at hg
      cases hg
      exact ⟨hb, hm.lt⟩
  · exact row_lt h.ls g hg
theorem BoV.kept {B : Nat} {l : List KwN} {mv v : Value} {w w' : World} (h : BoV B l mv v w) (hk : ∀ g, bkHas mv v g → w'.heap[g]? = w.heap[g]?) : BoV B l mv v w' := by
  refine ⟨ownsRow_keep h.ls (fun g hg => hk g (.inr hg)), h.ok, h.one, ?_⟩
  rcases h.mp with q | ⟨b, D, q, hB, hm, ht⟩
  · exact .inl q
  · exact .inr ⟨b, D, q, hB, map_keep hm (hk b (.inl q)), ht⟩
theorem BoV.base {B B' : Nat} {l : List KwN} {mv v : Value} {w : World} (h : BoV B l mv v w) (hb : B' ≤ B) : BoV B' l mv v w := by
  refine ⟨own_base h.ls hb, h.ok, h.one, ?_⟩
  rcases h.mp with q | ⟨b, D, q, hB, hm, ht⟩
  · exact .inl q
  · exact .inr ⟨b, D, q, Nat.le_trans hb hB, hm, ht⟩
theorem BoV.map {B : Nat} {l : List KwN} {mv v : Value} {w : World} (h : BoV B l mv v w) : ∃ ob, mv = .map ob := by
  rcases h.mp with ⟨rfl, _⟩ | ⟨b, D, rfl, _⟩
  · exact ⟨_, rfl⟩
  · exact ⟨_, rfl⟩
theorem BoV.none (B : Nat) (w : World) : BoV B [] (.map none) (.slice none 0 0) w := ⟨World.ownsRow_nil _ _ _ _, (fun k h => by cases h), (fun i j h => by cases h), .inl ⟨rfl, rfl⟩⟩
/-- The words that a text tells. -/
def rdW (t : List UInt8) : List Nat := blkL (bya t) (t.length / 4)
def bkAdd (b : List KwN) (x : List UInt8 × List UInt8) : List KwN := if blkB (bya x.1) = true then layB b (rdW x.1) x.2 else b
def bookL (l : List (List UInt8 × List UInt8)) : List KwN := l.foldl bkAdd []
theorem bookL_take {l : List (List UInt8 × List UInt8)} {k : Nat} {x : List UInt8 × List UInt8} (h : l[k]? = some x) : bookL (l.take (k + 1)) = bkAdd (bookL (l.take k)) x := by
  unfold bookL
  rw [take_snoc' h, List.foldl_append]
  rfl
theorem layB_len (l : List KwN) (ws : List Nat) (p : List UInt8) : (layB l ws p).length ≤ l.length + 1 := by
  unfold layB
  split
  · rw [List.length_set]; omega
  · rw [List.length_append]; exact Nat.le_refl _
theorem bkAdd_len (l : List KwN) (x : List UInt8 × List UInt8) : (bkAdd l x).length ≤ l.length + 1 := by
  unfold bkAdd
  split
  · exact layB_len _ _ _
  · omega
theorem foldB_len : ∀ (l : List (List UInt8 × List UInt8)) (b : List KwN), (l.foldl bkAdd b).length ≤ b.length + l.length
  | [], b => by simp
  | x :: l, b => by
    have h1 := foldB_len l (bkAdd b x)
    have h2 := bkAdd_len b x
    rw [List.foldl_cons, List.length_cons]
    omega
theorem bookL_len (l : List (List UInt8 × List UInt8)) : (bookL l).length ≤ l.length := by have := foldB_len l []; simpa [bookL] using this
theorem sizeBk : (Tryz.prog.info? 104).map (·.size) = some 2 := by kernel_rfl
/-- What the making of a book leaves. -/
def BkPost (l : List KwN) (w : World) (e' : Ending) (w' : World) : Prop := ∃ mv v, e' = .returned (.agg #[mv, v]) ∧ BoV w.heap.size l mv v w' ∧ Below w.heap.size w w'
set_option maxRecDepth 100000 in
set_option maxHeartbeats 4000000 in
theorem bookOf_any (B0 : Nat) (v0 : Value) (l : List (List UInt8 × List UInt8)) (w : World) (ht : Tab w) (h : w.ownsRow B0 71 2 v0 l.length (knCs l)) (hx : ∀ x ∈ l, x.1.length ≤ 1000000) (hl : l.length ≤ 1000000000000) :
    Calls Tryz.prog 130 #[v0] w (BkPost (bookL l) w) := by
  obtain ⟨W0, hW0⟩ : ∃ W0, W0 = (w.alloc (.cells #[.map none, .slice none 0 0] 104)).alloc (.cells #[.map none, .slice none 0 0] 104) := ⟨_, rfl⟩
  have hs1 : (w.alloc (.cells #[.map none, .slice none 0 0] 104)).heap.size = w.heap.size + 1 := size_alloc1 _ _
  have hb0 : Below w.heap.size w W0 := by rw [hW0]; exact ((Below.refl _ _).alloc (Nat.le_refl _) _).alloc (by rw [size_alloc1]; omega) _
  have r0 : W0.heap[w.heap.size]? = some (.cells #[.map none, .slice none 0 0] 104 (0, 0)) := by rw [hW0, Below.heap_alloc _ _ _ (by rw [size_alloc1]; omega), _root_.Go.heap_alloc_new]
  have r1 : W0.heap[w.heap.size + 1]? = some (.cells #[.map none, .slice none 0 0] 104 (0, 0)) := by rw [hW0, ← hs1, _root_.Go.heap_alloc_new]
  have a0 : BoAt (w.heap.size + 1) (w.heap.size + 1) 0 [] (.map none) (.slice none 0 0) W0 := (BoV.none _ _).at' (by simp [World.cell?, r1]) (by simp [World.cell?, r1]) (fun e => by cases e)
  have f0 : ∀ j, W0.frozen? ⟨w.heap.size + 1, j, none⟩ = false := fun j => by simp [World.frozen?, r1]
  have HW0 := hide hW0
  have HT := hide (fun w' (hb : Below w.heap.size w w') => ht.below ht.pos hb)
  have H0 : Hid (BoAt (w.heap.size + 1) (w.heap.size + 1) 0 (bookL (l.take 0)) (.map none) (.slice none 0 0) W0 ∧ (∀ j, W0.frozen? ⟨w.heap.size + 1, j, none⟩ = false) ∧ W0.heap[w.heap.size]? = some (.cells #[.map none, .slice none 0 0] 104 (0, 0)) ∧ Below w.heap.size w W0) := ⟨a0, f0, r0, hb0⟩
  have HO := hide h; have HX := hide hx; have HL := hide hl
  obtain ⟨va, vc, hv⟩ := owns_len h
  subst hv
  clear hb0 r0 r1 a0 f0 hW0 ht h hx hs1
  go_enter Tryz.func130, Tryz.ntmps130
  go_wp2_with fail
  rw [← HW0.out]
  go_loopw [10] (fun i wr => ∃ (k : Nat) (mv u : Value), k ≤ l.length ∧ i = .int .i64 k ∧ Hid (BoAt (w.heap.size + 1) (w.heap.size + 1) 0 (bookL (l.take k)) mv u wr ∧ (∀ j, wr.frozen? ⟨w.heap.size + 1, j, none⟩ = false) ∧ wr.heap[w.heap.size]? = some (.cells #[.map none, .slice none 0 0] 104 (0, 0)) ∧ Below w.heap.size w wr)) (fun i _ => l.length - (intOf i).toNat)
  case atStart => exact ⟨0, .map none, .slice none 0 0, Nat.zero_le _, rfl, H0.out⟩
  case round =>
    obtain ⟨k, mv, u, hk, rfl, HM⟩ := hrel
    by_cases hlt : k < l.length
    · have hlt' : (k : Int) < (l.length : Int) := by omega
      obtain ⟨g, c, hv, _, hgl⟩ := HO.out.form (by omega)
      simp only [Value.slice.injEq] at hv
      obtain ⟨rfl, _, rfl⟩ := hv
      obtain ⟨d0, d1⟩ := kn_cells HO.out k l[k] (List.getElem?_eq_getElem hlt)
      have hbl := HM.out.2.2.2
      replace d0 := (World.cell?_of_block (hbl.block g hgl)).trans d0
      replace d1 := (World.cell?_of_block (hbl.block g hgl)).trans d1
      have hgz : g < wr.heap.size := Nat.lt_of_lt_of_le hgl hbl.size
      have HK := hide (bookL_take (List.getElem?_eq_getElem hlt))
      have hxl := HX.out l[k] (List.getElem_mem hlt)
      generalize l[k] = x at *
      have hz : (bya x.1).size = x.1.length := bya_size _
      have HRd := hide (fun w' (hb : Below w.heap.size w w') => blkRead_any (bya x.1) w' (HT.out w' hb) (by rw [hz]; unfold maxLen; omega))
      have HBl := hide hbl
      have HZ := hide hz
      clear hbl hz hxl
      go_wp2_with fail
      refine (unhide HRd _ (HBl.out.alloc HBl.out.size _)).mono ?_
      rintro e w1 ⟨hb1, hres⟩
      have hz1 : wr.heap.size + 1 ≤ w1.heap.size := by have := hb1.size; rw [size_alloc1] at this; exact this
      have b1 := hb1.block wr.heap.size (by rw [size_alloc1]; exact Nat.lt_succ_self _)
      rw [_root_.Go.heap_alloc_new] at b1
      have q1 : w1.cell? ⟨wr.heap.size, 1, none⟩ = some (.string (bya x.2)) := by simp [World.cell?, b1]
      have HB1 : Hid (Below wr.heap.size wr w1) := ((Below.refl _ _).alloc (Nat.le_refl _) _).trans (hb1.mono (by rw [size_alloc1]; exact Nat.le_succ _))
      clear hb1 b1
      rcases hres with ⟨hok, rfl⟩ | ⟨hno, rfl⟩
      · have h8 : wOK (rdW x.1) := ⟨by unfold rdW; rw [blkL_len, ← HZ.out]; have := hok.2.1; omega, blkL_bd _ _⟩
        have HA : Hid (bkAdd (bookL (l.take k)) x = layB (bookL (l.take k)) (rdW x.1) x.2) := if_pos ((blkB_iff _).2 hok)
        have hrd : blkL (bya x.1) ((bya x.1).size / 4) = rdW x.1 := by rw [HZ.out]; rfl
        rw [hrd]
        have hzl := wdZ_len h8.1
        have HBo : Hid (BoAt (w.heap.size + 1) (w.heap.size + 1) 0 (bookL (l.take k)) mv u (w1.alloc (.cells (S (wdZ (rdW x.1))) 131))) := HM.out.1.up (HB1.out.alloc HB1.out.size _)
        have HFz : Hid (∀ j, (w1.alloc (.cells (S (wdZ (rdW x.1))) 131)).frozen? ⟨w.heap.size + 1, j, none⟩ = false) := fun j => (World.frozen?_of_block ((HB1.out.alloc HB1.out.size _).block _ HM.out.1.lt)).trans (HM.out.2.1 j)
        have HLy := hide (bklay_any (w.heap.size + 1) (w.heap.size + 1) 0 (bookL (l.take k)) mv u (rdW x.1) (bya x.2) _ HBo.out (Nat.le_refl _) HFz.out h8 (by have h1 := bookL_len (l.take k); rw [List.length_take] at h1; have := HL.out; omega))
        have hrow : RowI (w1.alloc (.cells (S (wdZ (rdW x.1))) 131)) w1.heap.size 131 (wdZ (rdW x.1)) := _root_.Go.heap_alloc_new w1 _
        have rI := hrow.isRow 9 hzl
        have rD := hrow.rowD
        replace q1 := (World.cell?_of_block (a := ⟨wr.heap.size, 1, none⟩) (Below.heap_alloc w1 (.cells (S (wdZ (rdW x.1))) 131) wr.heap.size hz1)).trans q1
        clear hok hrd h8 hrow
        go_wp2_with (first
          | refine wpList_storeR size9 rfl _ _ rfl w1.heap.size rfl (wdZ (rdW x.1)) rfl hzl (by rw [isRowB_alloc_at _ _ _ _ _ rfl]; rfl) _ (setRow_alloc_at _ _ _ _ _ rfl) ?_
          | refine wpList_loadR rfl Tryz.underlying131 size9 rfl _ rfl w1.heap.size rfl rI (S (wdZ (rdW x.1))) rD ?_)
        refine (unhide HLy).mono ?_
        rintro e w3 ⟨rfl, mv', v', hbo, hfr, _⟩
        have HBo3 := hide hbo
        have hb3 : Below wr.heap.size wr (w1.alloc (.cells (S (wdZ (rdW x.1))) 131)) := HB1.out.alloc HB1.out.size _
        have HB3 : Hid (Below w.heap.size w w3) := (HBl.out.trans (hb3.mono HBl.out.size)).trans (hfr.below.mono (Nat.le_succ _))
        have HF3 : Hid (∀ j, w3.frozen? ⟨w.heap.size + 1, j, none⟩ = false) := fun j => (hfr.fz j).trans (HFz.out j)
        have hwz : w.heap.size < wr.heap.size := Nat.lt_of_succ_lt HM.out.1.lt
        have HR3 : Hid (w3.heap[w.heap.size]? = some (.cells #[.map none, .slice none 0 0] 104 (0, 0))) := (hfr.below.block _ (Nat.lt_succ_self _)).trans ((hb3.block _ hwz).trans HM.out.2.2.1)
        clear hbo hfr hb3 HLy
        go_wp2_with fail
        refine ⟨⟨k + 1, mv', v', hlt, by go_num, ?_⟩, by simp [intOf]; omega⟩
        rw [HK.out, HA.out]
        have hbo := HBo3.out
        rw [lst_bya] at hbo
        exact ⟨hbo, HF3.out, HR3.out, HB3.out⟩
      · have HA : Hid (bkAdd (bookL (l.take k)) x = bookL (l.take k)) := if_neg (fun q => hno ((blkB_iff _).1 q))
        have hzl : (wdZ []).length = 9 := rfl
        have hb3 : Below wr.heap.size wr (w1.alloc (.cells (S (wdZ [])) 131)) := HB1.out.alloc HB1.out.size _
        have HE : Hid (BoAt (w.heap.size + 1) (w.heap.size + 1) 0 (bookL (l.take k)) mv u (w1.alloc (.cells (S (wdZ [])) 131)) ∧ (∀ j, (w1.alloc (.cells (S (wdZ [])) 131)).frozen? ⟨w.heap.size + 1, j, none⟩ = false) ∧ (w1.alloc (.cells (S (wdZ [])) 131)).heap[w.heap.size]? = some (.cells #[.map none, .slice none 0 0] 104 (0, 0)) ∧ Below w.heap.size w (w1.alloc (.cells (S (wdZ [])) 131))) := ⟨HM.out.1.up hb3, fun j => (World.frozen?_of_block (hb3.block _ HM.out.1.lt)).trans (HM.out.2.1 j), (hb3.block _ (Nat.lt_of_succ_lt HM.out.1.lt)).trans HM.out.2.2.1, HBl.out.trans (hb3.mono HBl.out.size)⟩
        clear hno hb3
        go_wp2_with (refine wpList_storeR size9 rfl _ _ rfl w1.heap.size rfl (wdZ []) rfl hzl (by rw [isRowB_alloc_at _ _ _ _ _ rfl]; rfl) _ (setRow_alloc_at _ _ _ _ _ rfl) ?_)
        refine ⟨⟨k + 1, mv, u, hlt, by go_num, ?_⟩, by simp [intOf]; omega⟩
        rw [HK.out, HA.out]
        exact HE.out
    · have hlt' : ¬ (k : Int) < (l.length : Int) := by omega
      obtain rfl : k = l.length := by omega
      rw [List.take_length] at HM
      obtain ⟨ob, rfl⟩ := HM.out.1.val.map
      obtain ⟨ua, uc, rfl⟩ := owns_len HM.out.1.ls
      generalize hmv : Value.map ob = mv at HM
      generalize huv : Value.slice ua (bookL l).length uc = u at HM
      have c0 := HM.out.1.c0; have c1 := HM.out.1.c1
      have r0 := HM.out.2.2.1
      have s0 : wr.cell? ⟨w.heap.size, 0, none⟩ = some (.map none) := by simp [World.cell?, r0]
      have s1 : wr.cell? ⟨w.heap.size, 1, none⟩ = some (.slice none 0 0) := by simp [World.cell?, r0]
      have f0 : ∀ j, wr.frozen? ⟨w.heap.size, j, none⟩ = false := fun j => by simp [World.frozen?, r0]
      have g0 := f0 0; have g1 := f0 1
      have hNe : ∀ g, bkHas mv u g → g ≠ w.heap.size := fun g q e => by have := (HM.out.1.has q).1; omega
      have HEnd : Hid (∀ Wf, Wf = (wr.setCell ⟨w.heap.size, 0, none⟩ mv).setCell ⟨w.heap.size, 1, none⟩ u → Wf.heap[w.heap.size]? = some (.cells #[mv, u] 104 (0, 0)) ∧ BkPost (bookL l) w (.returned (.agg #[mv, u])) Wf) := fun Wf e => by
        refine ⟨by rw [e]; simp [World.setCell, Array.getElem?_modify, r0], mv, u, rfl, ?_, ?_⟩
        · refine (HM.out.1.val.base (B' := w.heap.size) (Nat.le_succ _)).kept (fun g q => ?_)
          rw [e]
          exact (set_other (hNe g q)).trans (set_other (hNe g q))
        · rw [e]
          exact (HM.out.2.2.2.setCell (p := ⟨w.heap.size, 0, none⟩) (Nat.le_refl _) _).setCell (p := ⟨w.heap.size, 1, none⟩) (Nat.le_refl _) _
      clear f0 r0 hNe
      subst hmv huv
      go_wp2_with fail
      exact bodyPost_ret (v := .agg #[.map ob, .slice ua (bookL l).length uc]) (results_cell_row Tryz.results130 _ _ w.heap.size 104 _ _ _ rfl (HEnd.out _ rfl).1 Tryz.underlying104 rfl sizeBk) rfl (HEnd.out _ rfl).2
end Go.Proofs.YtmmflekajbeamabGreatDoor

namespace Go.Proofs.YtmmflekajbeamabGreatDoor
open Go.RowKit Go.Maps Go.WideMaps Go.Shelf

theorem knCs_len (l : List (List UInt8 × List UInt8)) : (knCs l).length = l.length * 2 := flat_len (fun x : List UInt8 × List UInt8 => [Value.string (bya x.1), Value.string (bya x.2)]) 2 (fun _ => rfl) l
theorem knCs_app (l m : List (List UInt8 × List UInt8)) : knCs (l ++ m) = knCs l ++ knCs m := by simp [knCs]
theorem knCs_one (l : List (List UInt8 × List UInt8)) : ∀ u ∈ knCs l, u.oneCell' = true := fun u hu => by
  unfold knCs at hu
  obtain ⟨x, _, hx⟩ := List.mem_flatMap.1 hu
  simp at hx
  rcases hx with rfl | rfl <;> rfl
/-- A list of blocks and plans behind another one. -/
theorem app_run (w : World) (ty : TypeId) {B B0 : Nat} {v x : Value} {l m : List (List UInt8 × List UInt8)} (hv : w.ownsRow B 71 2 v l.length (knCs l)) (hx : w.ownsRow B0 71 2 x m.length (knCs m)) (hB : B ≤ w.heap.size) (hl : l.length + m.length ≤ 2000000000000) :
    ∃ v' w', (Builtin.append_ #[37, 37] ty #[v, x]).run Tryz.prog w = .ok v' w' ∧ w'.ownsRow B 71 2 v' (l ++ m).length (knCs (l ++ m)) ∧ w.grownBy w' v.ownBlock ∧ (v.ownBlock = v'.ownBlock ∨ v'.ownBlock = some w.heap.size) := by
  obtain ⟨inf, hinf, hz, hsz1, hby⟩ := infoKn
  by_cases hm : m.length = 0
  · have hm0 : m = [] := List.length_eq_zero_iff.1 hm
    subst hm0
    obtain ⟨va, vc, rfl⟩ := owns_len hv
    obtain ⟨xa, xc, rfl⟩ := owns_len hx
    refine ⟨.slice va l.length vc, w, ?_, by rw [List.append_nil]; exact hv, World.grownBy.refl _ _, .inl rfl⟩
    have hle : l.length ≤ vc := by
      rcases hv.2 with ⟨q, q2⟩ | ⟨g, cap, cur, q, h1, h2, h3, h4, h5, h6⟩
      · rw [q2]; exact Nat.zero_le _
      · simp only [Value.slice.injEq] at q; obtain ⟨_, _, rfl⟩ := q; exact h3
    refine run_append_nothing w _ _ _ 71 inf Tryz.underlying37 hinf va l.length vc hle _ ?_
    cases xa with
    | none => exact ⟨.inl ⟨_, Tryz.underlying37⟩, fun w' => by simp [Builtin.lenOf], by simp [Builtin.firstCells], by simp [Builtin.firstCells], by simp, fun u hu => by cases hu⟩
    | some ad => exact ⟨.inl ⟨_, Tryz.underlying37⟩, fun w' => by simp [Builtin.lenOf], _root_.Go.run_firstCells_some w inf.size 0 ad 0 xc [] (by simp) (fun j v hj => by cases hj), _root_.Go.run_firstCells_some w.drew inf.size 0 ad 0 xc [] (by simp) (fun j v hj => by cases hj), by simp, fun u hu => by cases hu⟩
  · obtain ⟨xg, xc, rfl, _, _⟩ := hx.form (by omega)
    obtain ⟨g, cap, w', hr, h2, h3, h4, h5⟩ := run_append_lies w 37 ty B 71 inf _ 2 32 Tryz.underlying37 hinf hz hsz1 hby rfl (by decide) v l.length (knCs l) hv ⟨xg, 0, none⟩ m.length xc (knCs m) (knCs_len m) (fun j u hj => hx.cells (g := xg) rfl j u hj) (knCs_one m) (by omega) (by unfold maxLen; omega) (by omega) hB w.heap.size rfl
    exact ⟨_, w', hr, by rw [List.length_append, knCs_app]; exact h2, h3, h4.imp (fun q => q) (fun q => by rw [q]; rfl)⟩
theorem wp_app {o : Oper} {a : Act} {w : World} {K : Act → World → Prop} {Q : Exit → Act → World → Prop} (s x : Operand)
    (ho : o.op = .call { callee := .builtin .append, args := #[s, x], argTypes := #[37, 37] }) {B B0 : Nat} {v y : Value} {l m : List (List UInt8 × List UInt8)} (hs : a.eval s = v) (hx : a.eval x = y) (hv : w.ownsRow B 71 2 v l.length (knCs l)) (hy : w.ownsRow B0 71 2 y m.length (knCs m)) (hB : B ≤ w.heap.size) (hl : l.length + m.length ≤ 2000000000000)
    (h : ∀ v' w', w'.ownsRow B 71 2 v' (l ++ m).length (knCs (l ++ m)) → w.grownBy w' v.ownBlock → (v.ownBlock = v'.ownBlock ∨ v'.ownBlock = some w.heap.size) → K (a.put o.dst v') w') : o.wp Tryz.prog a w K Q := by
  obtain ⟨v', w', hr, h2, h3, h4⟩ := app_run w o.type hv hy hB hl
  unfold Oper.wp execOp
  simp only [ho, resolve, invoke, builtin, Sem.run_bind, Sem.run_pure, Result.andThen_ok, List.map_toArray, List.map_cons, List.map_nil, hs, hx, hr]
  exact h v' w' h2 h3 h4
theorem wpList_app {ops : Array Oper} {rest : List Oper} {o : Oper} {a : Act} {w : World} {Q : Exit → Act → World → Prop} (hgd : o.guard = none) (s x : Operand)
    (ho : o.op = .call { callee := .builtin .append, args := #[s, x], argTypes := #[37, 37] }) {B B0 : Nat} {v y : Value} {l m : List (List UInt8 × List UInt8)} (hs : a.eval s = v) (hx : a.eval x = y) (hv : w.ownsRow B 71 2 v l.length (knCs l)) (hy : w.ownsRow B0 71 2 y m.length (knCs m)) (hB : B ≤ w.heap.size) (hl : l.length + m.length ≤ 2000000000000)
    (h : ∀ v' w', w'.ownsRow B 71 2 v' (l ++ m).length (knCs (l ++ m)) → w.grownBy w' v.ownBlock → (v.ownBlock = v'.ownBlock ∨ v'.ownBlock = some w.heap.size) → wpList Tryz.prog ops Q rest (a.put o.dst v') w') : wpList Tryz.prog ops Q (o :: rest) a w :=
  wpList_plain hgd fun _ hK => wp_app s x ho hs hx hv hy hB hl fun v' w' h2 h3 h4 => hK _ _ (h v' w' h2 h3 h4)
def renG : Ren := ⟨fun _ => 195, fun t => if t = 0 then 0 else if t = 3 then 3 else if t = 4 then 4 else if t = 9 then 9 else if t = 20 then 20 else if t = 22 then 37 else 71, fun x => x⟩
set_option maxRecDepth 100000 in
theorem laysG : Lays8.n4 Tryz.prog renG := by
  constructor <;> first | kernel_rfl | (intro w; kernel_rfl) | exact ⟨ "slices.Grow[[]crib/api.Known,crib/api.Known]", rfl, by kernel_rfl⟩
/-- slices.Grow of no list. -/
theorem grow_any (n : Nat) (w : World) (hn : n ≤ 2000000000000) :
    Calls Tryz.prog 195 #[.slice none 0 0, .int .i64 (n : Int)] w fun e' w' => ∃ v, e' = .returned v ∧ w'.ownsRow w.heap.size 71 2 v 0 [] ∧ Below w.heap.size w w' := by
  by_cases h0 : n = 0
  · subst h0
    refine (Any8.slices_Grow_room laysG none 0 0 0 w (Nat.le_refl _) (by omega) (by omega) (Nat.le_refl _)).mono ?_
    rintro e w' ⟨rfl, rfl⟩
    exact ⟨_, rfl, World.ownsRow_nil _ _ _ _, Below.refl _ _⟩
  · obtain ⟨inf, hinf, hz, hsz1, hby⟩ := infoKn
    refine (Any8.slices_Grow_grow laysG inf _ hinf hz (by rw [hsz1]; decide) none 0 0 n [] w (Nat.le_refl _) (by omega) (by rw [hby]; omega) (by omega) (by simp) (fun _ => rfl) (fun a h => by cases h)).mono ?_
    rintro e w' ⟨rfl, rfl⟩
    have hG := grownCap_ge w (0 + n) 0 (renG.t 25)
    have hGm := grownCap_le_maxLen w (0 + n) 0 (renG.t 25) (by unfold maxLen; omega)
    generalize grownCap w (0 + n) 0 (renG.t 25) = G at *
    refine ⟨_, rfl, ⟨rfl, .inr ⟨w.heap.size, G, _, rfl, Nat.le_refl _, _root_.Go.heap_alloc_new w.drew _, Nat.zero_le _, hGm, ?_, ?_⟩⟩, (Below.refl _ _).drew.alloc (Nat.le_refl _) _⟩
    · simp only [Array.size_append, List.size_toArray, size_zeroCells, List.length_nil, Value.cells]
      show 0 + (0 + n - 0) * 2 + (G - (0 + n)) * 2 = G * 2
      omega
    · simp
set_option maxRecDepth 100000 in
set_option maxHeartbeats 2000000 in
/-- slices.Clone. -/
theorem kclone_any (B0 : Nat) (v : Value) (l : List (List UInt8 × List UInt8)) (w : World) (h : w.ownsRow B0 71 2 v l.length (knCs l)) (hl : l.length ≤ 1000000000000) :
    Calls Tryz.prog 70 #[v] w fun e' w' => ∃ v', e' = .returned v' ∧ w'.ownsRow w.heap.size 71 2 v' l.length (knCs l) ∧ Below w.heap.size w w' := by
  rcases h.2 with ⟨rfl, hl0⟩ | ⟨g, cap, cur, rfl, _⟩
  · have h0 : l = [] := List.length_eq_zero_iff.1 hl0
    subst h0
    have q : ∀ w, (binOp .eql 37 (.slice none 0 0) (.slice none 0 0)).run Tryz.prog w = .ok (.bool true) w := fun w => by rfl
    go_enter Tryz.func70, Tryz.ntmps70
    go_wp2_with fail
    go_ret
    exact ⟨_, rfl, World.ownsRow_nil _ _ _ _, Below.refl _ _⟩
  · have q : ∀ w, (binOp .eql 37 (.slice (some ⟨g, 0, none⟩) l.length cap) (.slice none 0 0)).run Tryz.prog w = .ok (.bool false) w := fun w => by rfl
    have HO : Hid (∀ ob : Obj, (w.alloc ob).ownsRow B0 71 2 (.slice (some ⟨g, 0, none⟩) l.length cap) l.length (knCs l)) := fun ob => h.alloc ob
    have HL := hide hl
    clear h hl
    go_enter Tryz.func70, Tryz.ntmps70
    go_wp2_with (at_builtin; refine wpList_app rfl _ _ rfl (B := w.heap.size) (B0 := B0) (l := []) (m := l) rfl rfl (World.ownsRow_made w #[] 0 (Nat.le_refl _) (Nat.zero_le _) rfl) (HO.out _) (by rw [size_alloc1]; exact Nat.le_succ _) (by have := HL.out; simp; omega) ?_; intro v' w' h1 h2 h3; have H1 := hide h1; have H2 := hide h2; clear h1 h2 h3)
    go_ret
    refine ⟨_, rfl, H1.out, ?_⟩
    exact ((Below.refl _ w).alloc (Nat.le_refl _) _).grown H2.out (by rw [size_alloc1]; exact Nat.le_succ _) (by intro k hk; cases hk; exact Nat.le_refl _)
/-- slices.Concat of two lists. -/
def CcPost (l : List (List UInt8 × List UInt8)) (w : World) (e' : Ending) (w' : World) : Prop := ∃ v, e' = .returned v ∧ w'.ownsRow w.heap.size 71 2 v l.length (knCs l) ∧ Below w.heap.size w w'
set_option maxRecDepth 100000 in
set_option maxHeartbeats 4000000 in
theorem concat_any (B1 B2 G : Nat) (v1 v2 : Value) (l m : List (List UInt8 × List UInt8)) (w : World) (c0 : w.cell? ⟨G, 0, none⟩ = some v1) (c1 : w.cell? ⟨G, 1, none⟩ = some v2) (h1 : w.ownsRow B1 71 2 v1 l.length (knCs l)) (h2 : w.ownsRow B2 71 2 v2 m.length (knCs m)) (hl : l.length + m.length ≤ 1000000000000) :
    Calls Tryz.prog 146 #[.slice (some ⟨G, 0, none⟩) 2 2] w (CcPost (l ++ m) w) := by
  obtain ⟨a1, n1, rfl⟩ := owns_len h1
  obtain ⟨a2, n2, rfl⟩ := owns_len h2
  have H1 := hide h1; have H2 := hide h2
  have HL := hide hl
  have HG : Hid (∀ w', Calls Tryz.prog 195 #[.slice none 0 0, .int .i64 ((l.length : Int) + (m.length : Int))] w' fun e' w'' => ∃ v, e' = .returned v ∧ w''.ownsRow w'.heap.size 71 2 v 0 [] ∧ Below w'.heap.size w' w'') := fun w' => by
    have := grow_any (l.length + m.length) w' (by omega)
    rw [Int.natCast_add] at this
    exact this
  have HLe : Hid ((l ++ m).length = l.length + m.length) := List.length_append
  have hGl : G < w.heap.size := block_lt_of_cell c0
  clear h1 h2 hl
  generalize hle1 : l.length = L1 at *
  generalize hle2 : m.length = L2 at *
  have w1 : wrap64 ((L1 : Int) + (L2 : Int)) = (L1 : Int) + (L2 : Int) := by have := HL.out; unfold wrap64; omega
  have w0 : wrap64 (L1 : Int) = (L1 : Int) := by have := HL.out; unfold wrap64; omega
  have HE1 := hide hle1; have HE2 := hide hle2
  clear hle1 hle2
  have hs0 : ¬ ((L1 : Int) < 0) := by omega
  have hs1 : ¬ ((L1 : Int) + (L2 : Int) < 0) := by omega
  go_enter Tryz.func146, Tryz.ntmps146
  go_wp2_with fail
  go_loopw [3, 11] (fun s i wr => wr = w ∧ ((s = .int .i64 0 ∧ i = .int .i64 0) ∨ (s = .int .i64 (L1 : Int) ∧ i = .int .i64 1) ∨ (s = .int .i64 ((L1 : Int) + (L2 : Int)) ∧ i = .int .i64 2))) (fun _ i _ => 2 - (intOf i).toNat)
  case atStart => exact ⟨rfl, .inl ⟨rfl, rfl⟩⟩
  case round =>
    obtain ⟨rfl, ⟨rfl, rfl⟩ | ⟨rfl, rfl⟩ | ⟨rfl, rfl⟩⟩ := hrel
    · go_wp2_with fail
      exact ⟨⟨trivial, .inr (.inl ⟨by rw [w0], rfl⟩)⟩, by simp [intOf]⟩
    · go_wp2_with fail
      exact ⟨⟨trivial, .inr (.inr ⟨by rw [w1], rfl⟩)⟩, by simp [intOf]⟩
    · go_wp2_with fail
      refine (unhide HG _).mono ?_
      rintro e w2 ⟨v, rfl, ho, hb⟩
      obtain ⟨w, hw⟩ : ∃ w, w = wr := ⟨_, rfl⟩
      subst hw
      have HO := hide ho; have HB := hide hb
      clear ho hb HG w1 w0 hs0 hs1
      go_wp2_with fail
      go_loopw [6, 27] (fun v i wr => ∃ l', Hid (wr.ownsRow w.heap.size 71 2 v (List.length l') (knCs l') ∧ Below w.heap.size w wr) ∧ ((i = .int .i64 0 ∧ l' = []) ∨ (i = .int .i64 1 ∧ l' = l) ∨ (i = .int .i64 2 ∧ l' = l ++ m))) (fun _ i _ => 2 - (intOf i).toNat)
      case atStart => exact ⟨[], ⟨HO.out, HB.out⟩, .inl ⟨rfl, rfl⟩⟩
      case round =>
        obtain ⟨l', HM, ⟨rfl, rfl⟩ | ⟨rfl, rfl⟩ | ⟨rfl, rfl⟩⟩ := hrel
        · have d0 := (World.cell?_of_block (HM.out.2.block G hGl)).trans c0
          have HS : Hid (wr.ownsRow B1 71 2 (.slice a1 L1 n1) l.length (knCs l)) := by unfold Hid; rw [HE1.out]; exact own_grow H1.out HM.out.2
          go_wp2_with (at_builtin; refine wpList_app rfl _ _ rfl (B := w.heap.size) (B0 := B1) (l := []) (m := l) rfl rfl HM.out.1 HS.out HM.out.2.size (by have := HL.out; have := HE1.out; simp; omega) ?_; intro v' w' h1 h2 h3; have K1 := hide h1; have K2 := hide h2; clear h1 h2 h3)
          refine ⟨⟨l, ⟨K1.out, HM.out.2.grown K2.out HM.out.2.size (fun k hk => (row_lt HM.out.1 k hk).1)⟩, .inr (.inl ⟨rfl, rfl⟩)⟩, by simp [intOf]⟩
        · have d1 := (World.cell?_of_block (HM.out.2.block G hGl)).trans c1
          have HS : Hid (wr.ownsRow B2 71 2 (.slice a2 L2 n2) m.length (knCs m)) := by unfold Hid; rw [HE2.out]; exact own_grow H2.out HM.out.2
          go_wp2_with (at_builtin; refine wpList_app rfl _ _ rfl (B := w.heap.size) (B0 := B2) (l := l') (m := m) rfl rfl HM.out.1 HS.out HM.out.2.size (by have := HL.out; have := HE1.out; have := HE2.out; omega) ?_; intro v' w' h1 h2 h3; have K1 := hide h1; have K2 := hide h2; clear h1 h2 h3)
          refine ⟨⟨l' ++ m, ⟨K1.out, HM.out.2.grown K2.out HM.out.2.size (fun k hk => (row_lt HM.out.1 k hk).1)⟩, .inr (.inr ⟨rfl, rfl⟩)⟩, by simp [intOf]⟩
        · go_wp2_with fail
          go_ret
          exact ⟨_, rfl, HM.out.1, HM.out.2⟩
end Go.Proofs.YtmmflekajbeamabGreatDoor
