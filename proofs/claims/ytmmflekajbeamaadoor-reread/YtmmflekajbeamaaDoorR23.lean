/-
  Frames: a frame is taken (take).
  Frames: what an area's bytes tell (frame.Scan).
  Frames, the document's answer: what an area's bytes tell (cribref.Scan).
-/
import Derived.Test.YtmmflekajbeamaaDoorR22
import Derived.Test.YtmmflekajbeamaaDoorR19
namespace Go.Proofs.YtmmflekajbeamaaDoor
open Go.RowKit

theorem arT_open {a : ArN} (h : a.gen = 0) (K : Nat) (q : List UInt8) : arT a K q = rOpen a K q := by unfold arT rOpen; rw [if_pos h]
theorem arT_entry {a : ArN} (h : a.gen ≠ 0) {K : Nat} (hK : K = 2) (q : List UInt8) : arT a K q = rEntry a q := by subst hK; unfold arT rEntry; rw [if_neg h, if_pos rfl]
theorem arT_whole {a : ArN} (h : a.gen ≠ 0) {K : Nat} (hK : K = 3) (q : List UInt8) : arT a K q = rWhole a q := by subst hK; unfold arT rWhole; rw [if_neg h, if_neg (by decide), if_pos rfl]
theorem arT_other {a : ArN} (h : a.gen ≠ 0) {K : Nat} (h2 : K ≠ 2) (h3 : K ≠ 3) (q : List UInt8) : arT a K q = none := by unfold arT; rw [if_neg h, if_neg h2, if_neg h3]
theorem TkPost.up {A : Nat} {a : ArN} {v : Value} {r : Option ArN} {w W1 : World} {e : Ending} {w' : World} (hA : A < w.heap.size) (hb : Below w.heap.size w W1) (h : TkPost A a v r W1 e w') : TkPost A a v r w e w' := by
  obtain ⟨⟨h1, h2⟩, h3⟩ := h
  have hz := hb.size
  refine ⟨⟨(hb.mono (Nat.le_of_lt hA)).trans h1, fun g hg hn ho => (h2 g (by omega) hn ho).trans (hb.block g hg)⟩, ?_⟩
  rcases h3 with ⟨a', v', x1, x2, x3, x4⟩ | x
  · refine .inl ⟨a', v', x1, x2, x3, fun g hg => ?_⟩
    rcases x4 g hg with h | h
    · exact .inl h
    · exact .inr (by omega)
  · exact .inr x
theorem TkPost.form {A : Nat} {a : ArN} {v : Value} {r : Option ArN} {w : World} {e : Ending} {w' : World} (h : TkPost A a v r w e w') : ∃ b, e = .returned (.bool b) := by
  obtain ⟨_, ⟨_, _, _, rfl, _⟩ | ⟨_, rfl, _⟩⟩ := h
  · exact ⟨_, rfl⟩
  · exact ⟨_, rfl⟩

set_option maxRecDepth 100000 in
set_option maxHeartbeats 4000000 in
theorem frTake_any (A : Nat) (a : ArN) (v : Value) (K : Nat) (q : List UInt8) (n : Int) (w : World) (h : ArAt A a v w) (ht : Tab w) (hq2 : q.length ≤ 200) (hal : a.list.length ≤ 2000000) (hgg : a.good = 0 ↔ a.gen = 0) :
    Calls Tryd.prog 111 #[.pointer (some ⟨A, 0, none⟩), .agg #[.int .i64 (K : Int), .string (bya q), .int .i64 n]] w (TkPost A a v (arT a K q) w) := by
  have hA := h.lt
  have hne : ¬ A = w.heap.size := by omega
  have g2 : w.cell? ⟨A, 2, none⟩ = some (.int .i64 (a.good : Int)) := h.cell 2
  obtain ⟨W1, hW1⟩ : ∃ W1, W1 = w.alloc (.cells #[.int .i64 (K : Int), .string (bya q), .int .i64 n] 149) := ⟨_, rfl⟩
  have b1 : Below w.heap.size w W1 := by rw [hW1]; exact (Below.refl _ _).alloc (Nat.le_refl _) _
  have a1 := h.above b1
  have HUp : Hid (∀ r e w', TkPost A a v r W1 e w' → TkPost A a v r w e w') := fun r e w' hp => hp.up hA b1
  have HW := hide hW1
  by_cases h0 : a.good = 0
  · have HC := hide (takeOpen_any A a v K q n W1 a1 (hgg.1 h0))
    rw [← arT_open (hgg.1 h0)] at HC
    rw [h0] at g2
    clear b1 a1 hW1
    generalize arT a K q = R at *
    generalize bya q = D at *
    go_enter Tryd.func111, Tryd.ntmps111
    go_wp2_with fail
    rw [← HW.out]
    refine (unhide HC).mono ?_
    intro e w' hp
    obtain ⟨b, rfl⟩ := hp.form
    have HP := hide (HUp.out _ _ _ hp)
    clear hp
    go_wp2_with fail
    go_ret
    exact HP.out
  have hg0 : a.gen ≠ 0 := fun e => h0 (hgg.2 e)
  have h0' : ((a.good : Int) == 0) = false := by rw [beq_eq_false_iff_ne]; omega
  by_cases h2 : K = 2
  · have HC := hide (takeEntry_any A a v K q n W1 a1 (ht.below ht.pos b1) hq2 hal)
    rw [← arT_entry hg0 h2] at HC
    have h2t : ((K : Int) == 2) = true := by rw [beq_iff_eq]; omega
    clear b1 a1 hW1 h2
    generalize arT a K q = R at *
    generalize bya q = D at *
    go_enter Tryd.func111, Tryd.ntmps111
    go_wp2_with fail
    rw [← HW.out]
    refine (unhide HC).mono ?_
    intro e w' hp
    obtain ⟨b, rfl⟩ := hp.form
    have HP := hide (HUp.out _ _ _ hp)
    clear hp
    go_wp2_with fail
    go_ret
    exact HP.out
  have h2' : ((K : Int) == 2) = false := by rw [beq_eq_false_iff_ne]; omega
  by_cases h3 : K = 3
  · have HC := hide (takeWhole_any A a v K q n W1 a1)
    rw [← arT_whole hg0 h3] at HC
    have h3t : ((K : Int) == 3) = true := by rw [beq_iff_eq]; omega
    clear b1 a1 hW1 h3 h2
    generalize arT a K q = R at *
    generalize bya q = D at *
    go_enter Tryd.func111, Tryd.ntmps111
    go_wp2_with fail
    rw [← HW.out]
    refine (unhide HC).mono ?_
    intro e w' hp
    obtain ⟨b, rfl⟩ := hp.form
    have HP := hide (HUp.out _ _ _ hp)
    clear hp
    go_wp2_with fail
    go_ret
    exact HP.out
  have h3' : ((K : Int) == 3) = false := by rw [beq_eq_false_iff_ne]; omega
  have HP : Hid (TkPost A a v (arT a K q) w (.returned (.bool false)) W1) := ⟨TkFr.of_above hA b1, .inr ⟨arT_other hg0 h2 h3 q, rfl, a1⟩⟩
  clear b1 a1 hW1 h2 h3
  generalize arT a K q = R at *
  generalize bya q = D at *
  go_enter Tryd.func111, Tryd.ntmps111
  go_wp2_with fail
  go_ret
  rw [← HW.out]
  exact HP.out
end Go.Proofs.YtmmflekajbeamaaDoor

namespace Go.Proofs.YtmmflekajbeamaaDoor
open Go.RowKit

theorem zero74 (w : World) : (zeroValue 74).run Tryd.prog w = .ok (.agg (arV 0 false 0 (.slice none 0 0))) w := by kernel_rfl
theorem size74 : (Tryd.prog.info? 74).map (·.size) = some 4 := by kernel_rfl
theorem arV_one (gen : Nat) (whole : Bool) (good : Nat) (v : Value) (hv : v.oneCell' = true) : (arV gen whole good v).all (·.oneCell') = true := by
  simp [arV, Value.oneCell']
  exact hv
theorem own_one {w : World} {B n : Nat} {v : Value} {xs : List Value} {e : TypeId} {k : Nat} (h : w.ownsRow B e k v n xs) : v.oneCell' = true := by
  obtain ⟨a, c, rfl⟩ := owns_len h
  rfl
theorem setRow_alloc_any (w : World) (c c' : Array Value) (t : TypeId) : (w.alloc (.cells c t)).setRow w.heap.size c' = w.alloc (.cells c' t) := setRow_alloc_at _ _ _ _ _ rfl
theorem wpList_storeFA {ops : Array Oper} {rest : List Oper} {o : Oper} {a : Act} {w : World} {Q : Exit → Act → World → Prop} (hgd : o.guard = none) (x y : Operand) (ho : o.op = .store 149 x y)
    (k : Int) (p : ByteArray) (n : Int) (hx : a.eval x = .pointer (some ⟨w.heap.size, 0, none⟩)) (hy : a.eval y = .agg (frV k p n))
    (h : wpList Tryd.prog ops Q rest (a.put o.dst undef) (w.alloc (.cells #[.int .i64 k, .string p, .int .i64 n] 149))) : wpList Tryd.prog ops Q (o :: rest) a (w.alloc (.cells (frV 0 (bya []) 0) 149)) := by
  refine wpList_storeF hgd x y ho w.heap.size k p n hx hy _ (_root_.Go.heap_alloc_new w _) rfl ?_
  rw [setRow_alloc_any]
  exact h
def goodOf (A : Nat) (w : World) : Nat := match w.cell? ⟨A, 2, none⟩ with | some v => (intOf v).toNat | none => 0
theorem ArAt.good {A : Nat} {a : ArN} {v : Value} {w : World} (h : ArAt A a v w) : goodOf A w = a.good := by
  unfold goodOf
  rw [show w.cell? ⟨A, 2, none⟩ = some (.int .i64 (a.good : Int)) from h.cell 2]
  simp [intOf]
theorem arT_grow {a a' : ArN} {k : Nat} {p : List UInt8} (h : arT a k p = some a') : a.list.length ≤ a'.list.length := by
  unfold arT at h
  split at h
  · split at h
    · cases h; exact Nat.le_refl _
    · cases h
  · split at h
    · split at h
      · cases h; simp
      · cases h
    · split at h
      · split at h
        · cases h; exact Nat.le_refl _
        · cases h
      · cases h
theorem scn_grow : ∀ (f : Nat) (a : ArN) (l : List UInt8), a.list.length ≤ (scn f a l).list.length := by
  intro f
  induction f with
  | zero => intro a l; exact Nat.le_refl _
  | succ f ih =>
    intro a l
    rw [scn]
    cases hf : frst l with
    | none => exact Nat.le_refl _
    | some x =>
      obtain ⟨k, p⟩ := x
      simp only
      cases ht : arT a k p with
      | none => exact Nat.le_refl _
      | some a' => exact Nat.le_trans (arT_grow ht) (ih a' _)
/-- Where a reading stands. -/
structure ScI (s : ByteArray) (a : ArN) : Prop where
  le : a.good ≤ s.size
  iff : a.good = 0 ↔ a.gen = 0
  few : a.list.length ≤ a.good
  fewS : a.list.length ≤ (scan (lst s)).list.length
  goes : scn (((lst s).drop a.good).length + 1) a ((lst s).drop a.good) = scan (lst s)
theorem ScI.zero (s : ByteArray) : ScI s ar0 := ⟨Nat.zero_le _, ⟨fun _ => rfl, fun _ => rfl⟩, Nat.le_refl _, Nat.zero_le _, rfl⟩
theorem ScI.stop {s : ByteArray} {a : ArN} (h : ScI s a) (hf : frst ((lst s).drop a.good) = none) : scan (lst s) = a := by rw [← h.goes, scn, hf]
theorem ScI.stop2 {s : ByteArray} {a : ArN} (h : ScI s a) {K : Nat} {q : List UInt8} (hf : frst ((lst s).drop a.good) = some (K, q)) (ht : arT a K q = none) : scan (lst s) = a := by
  rw [← h.goes, scn, hf]
  simp only
  rw [ht]
theorem ScI.step {s : ByteArray} {a a' : ArN} (h : ScI s a) {K : Nat} {q : List UInt8} (hf : frst ((lst s).drop a.good) = some (K, q)) (ht : arT a K q = some a') : ScI s a' ∧ a'.good = a.good + (q.length + 8) := by
  obtain ⟨g1, g2, g3⟩ := arT_good ht
  have hq := (frst_some hf).2.2.2.1
  rw [List.length_drop, lst_len] at hq
  have hle := h.le
  have hgo : scn (((lst s).drop a'.good).length + 1) a' ((lst s).drop a'.good) = scan (lst s) := by
    rw [← h.goes]
    conv => rhs; rw [scn, hf]
    simp only
    rw [ht]
    simp only
    rw [List.drop_drop, ← g1]
    exact (scn_more _ _ a' _ (Nat.lt_succ_self _) (by rw [List.length_drop, List.length_drop, lst_len]; omega)).symm
  exact ⟨⟨by omega, by omega, by have := h.few; omega, by rw [← hgo]; exact scn_grow _ _ _, hgo⟩, g1⟩
/-- What a scanning leaves. -/
def ScanPost (s : ByteArray) (w : World) (e' : Ending) (w' : World) : Prop :=
  Below w.heap.size w w' ∧ ∃ v, e' = .returned (.agg (arV (scan (lst s)).gen (scan (lst s)).whole (scan (lst s)).good v)) ∧ w'.ownsRow w.heap.size 72 2 v (scan (lst s)).list.length (knCs (scan (lst s)).list)
theorem own_base {w : World} {B B' n : Nat} {v : Value} {xs : List Value} {e : TypeId} {k : Nat} (h : w.ownsRow B e k v n xs) (hb : B' ≤ B) : w.ownsRow B' e k v n xs := by
  refine ⟨h.1, ?_⟩
  rcases h.2 with h2 | ⟨g, cap, cur, x1, x2, x3⟩
  · exact .inl h2
  · exact .inr ⟨g, cap, cur, x1, by omega, x3⟩
/-- The end: the area is handed out. -/
theorem scan_end {s : ByteArray} {w wr : World} {a : ArN} {v : Value} (hs : scan (lst s) = a) (ha : ArAt (w.heap.size + 1) a v wr) (hb : Below w.heap.size w wr) (c : Array Value) (hR : wr.heap[w.heap.size]? = some (.cells c 74 (0, 0))) :
    (wr.setRow w.heap.size (arV a.gen a.whole a.good v)).heap[w.heap.size]? = some (.cells (arV a.gen a.whole a.good v) 74 (0, 0)) ∧ ScanPost s w (.returned (.agg (arV a.gen a.whole a.good v))) (wr.setRow w.heap.size (arV a.gen a.whole a.good v)) := by
  refine ⟨setRow_heap wr _ _ _ _ (0, 0) hR, below_setRow hb (Nat.le_refl _) _, v, by rw [hs], ?_⟩
  rw [hs]
  refine own_base (B := w.heap.size + 1 + 1) (ownsRow_keep ha.list (fun g hg => setRow_other _ _ _ _ (fun e => ?_))) (by omega)
  have := (row_lt ha.list g hg).1
  omega

set_option maxRecDepth 100000 in
set_option maxHeartbeats 4000000 in
theorem frScan_any (s : ByteArray) (w : World) (ht : Tab w) (hs : s.size ≤ 4611686018427387904) (hsl : (scan (lst s)).list.length ≤ 1048576) :
    Calls Tryd.prog 70 #[.string s] w (ScanPost s w) := by
  have HSl := hide hsl
  clear hsl
  have zz := zero74
  have zf := zero149
  obtain ⟨W0, hW0⟩ : ∃ W0, W0 = (w.alloc (.cells (arV 0 false 0 (.slice none 0 0)) 74)).alloc (.cells (arV 0 false 0 (.slice none 0 0)) 74) := ⟨_, rfl⟩
  have HW0 := hide hW0
  have hb0 : Below w.heap.size w W0 := by rw [hW0]; exact ((Below.refl _ _).alloc (Nat.le_refl _) _).alloc (by rw [size_alloc1]; omega) _
  have r0 : W0.heap[w.heap.size]? = some (.cells (arV 0 false 0 (.slice none 0 0)) 74 (0, 0)) := by rw [hW0, Below.heap_alloc _ _ _ (by rw [size_alloc1]; omega), _root_.Go.heap_alloc_new]
  have a0 : ArAt (w.heap.size + 1) ar0 (.slice none 0 0) W0 := by
    refine ⟨?_, World.ownsRow_nil _ _ _ _⟩
    rw [hW0]
    have := _root_.Go.heap_alloc_new (w.alloc (.cells (arV 0 false 0 (.slice none 0 0)) 74)) (.cells (arV 0 false 0 (.slice none 0 0)) 74)
    rw [size_alloc1] at this
    exact this
  have HT := hide (fun w' (hb : Below w.heap.size w w') => ht.below ht.pos hb)
  have H0 : Hid (Below w.heap.size w W0 ∧ W0.heap[w.heap.size]? = some (.cells (arV 0 false 0 (.slice none 0 0)) 74 (0, 0)) ∧ ArAt (w.heap.size + 1) ar0 (.slice none 0 0) W0) := ⟨hb0, r0, a0⟩
  clear hb0 r0 a0 hW0 ht
  go_enter Tryd.func70, Tryd.ntmps70
  go_wp2_with fail
  rw [← HW0.out]
  go_loopw [5] (fun _ wr => ∃ (a : ArN) (v : Value), Hid (ScI s a) ∧ Hid (ArAt (w.heap.size + 1) a v wr ∧ wr.heap[w.heap.size]? = some (.cells (arV 0 false 0 (.slice none 0 0)) 74 (0, 0)) ∧ Below w.heap.size w wr)) (fun _ wr => s.size - goodOf (w.heap.size + 1) wr)
  case atStart => exact ⟨ar0, .slice none 0 0, ScI.zero s, H0.out.2.2, H0.out.2.1, H0.out.1⟩
  case round =>
    obtain ⟨a, v, HI, HM⟩ := hrel
    have hA := HM.out.1.lt
    have c2 : wr.cell? ⟨w.heap.size + 1, 2, none⟩ = some (.int .i64 (a.good : Int)) := HM.out.1.cell 2
    have hgl : (a.good : Int) ≤ (s.size : Int) := by have := HI.out.le; omega
    have hg0 : (0 : Int) ≤ (a.good : Int) := by omega
    have HF := hide (frFirst_any (s.extract a.good s.size) wr (by rw [ByteArray.size_extract]; omega))
    have HLs : Hid (lst (s.extract a.good s.size) = (lst s).drop a.good) := by
      unfold Hid
      rw [lst_ext, List.take_of_length_le (by rw [List.length_drop, lst_len]; omega)]
    go_wp2_with fail
    refine (unhide HF).mono ?_
    rintro e w1 ⟨hb1, hf⟩
    unfold FstF at hf
    rw [HLs.out] at hf
    have hz1 := hb1.size
    rcases hf with ⟨hn, rfl⟩ | ⟨K, q, hk, rfl⟩
    · have HSc := hide (HI.out.stop hn)
      have HM1 : Hid (ArAt (w.heap.size + 1) a v (w1.alloc (.cells #[.int .i64 0, .string (bya []), .int .i64 0] 149)) ∧ (w1.alloc (.cells #[.int .i64 0, .string (bya []), .int .i64 0] 149)).heap[w.heap.size]? = some (.cells (arV 0 false 0 (.slice none 0 0)) 74 (0, 0)) ∧ Below w.heap.size w (w1.alloc (.cells #[.int .i64 0, .string (bya []), .int .i64 0] 149))) := by
        have hlw : w.heap.size < wr.heap.size := by omega
        refine ⟨(HM.out.1.above hb1).alloc _, ((Below.heap_alloc w1 _ _ (by omega)).trans (hb1.block _ hlw)).trans HM.out.2.1, (HM.out.2.2.trans (hb1.mono (by omega))).alloc (by omega) _⟩
      have HEnd := hide (scan_end HSc.out HM1.out.1 HM1.out.2.2 _ HM1.out.2.1)
      have hone := arV_one a.gen a.whole a.good v (own_one HM.out.1.list)
      clear hb1 hn HF
      go_wp2_with (first | (refine wpList_storeFA rfl _ _ rfl 0 (bya []) 0 rfl rfl ?_) | (refine wpList_load_row rfl 74 _ rfl (w.heap.size + 1) rfl 74 (arV a.gen a.whole a.good v) (0, 0) _ HM1.out.1.cells Tryd.underlying74 rfl size74 ?_) | (refine wpList_store_row rfl 74 _ _ rfl w.heap.size (arV a.gen a.whole a.good v) rfl rfl 74 _ HM1.out.2.1 size74 rfl hone ?_))
      exact bodyPost_ret (v := .agg (arV a.gen a.whole a.good v)) (results_cell_row Tryd.results70 _ _ w.heap.size 74 _ _ _ rfl HEnd.out.1 Tryd.underlying74 rfl size74) rfl HEnd.out.2
    · have hq200 := (frst_some hk).2.2.1
      have hqle := (frst_some hk).2.2.2.1
      rw [List.length_drop, lst_len] at hqle
      have hle0 := HI.out.le
      obtain ⟨n, hn⟩ : ∃ n : Int, n = ((q.length + 8 : Nat) : Int) := ⟨_, rfl⟩
      rw [← hn]
      have hlw : w.heap.size + 1 < wr.heap.size := hA
      obtain ⟨W2, hW2⟩ : ∃ W2, W2 = w1.alloc (.cells #[.int .i64 (K : Int), .string (bya q), .int .i64 n] 149) := ⟨_, rfl⟩
      have b2 : Below wr.heap.size wr W2 := by rw [hW2]; exact hb1.alloc (by omega) _
      have a2 := HM.out.1.above b2
      have B2 : Below w.heap.size w W2 := HM.out.2.2.trans (b2.mono (by omega))
      have R2 : W2.heap[w.heap.size]? = some (.cells (arV 0 false 0 (.slice none 0 0)) 74 (0, 0)) := (b2.block _ (by omega)).trans HM.out.2.1
      have F2 : W2.heap[w1.heap.size]? = some (.cells #[.int .i64 (K : Int), .string (bya q), .int .i64 n] 149 (0, 0)) := by rw [hW2, _root_.Go.heap_alloc_new]
      have hz2 : w1.heap.size < W2.heap.size := (Array.getElem?_eq_some_iff.1 F2).1
      have HC := hide (frTake_any (w.heap.size + 1) a v K q n W2 a2 (HT.out _ B2) hq200 (by have := HI.out.fewS; have := HSl.out; omega) HI.out.iff)
      have hvl : ∀ g, v.ownBlock = some g → g < wr.heap.size := fun g hg => (row_lt HM.out.1.list g hg).2
      have HVl := hide hvl
      have HW2 := hide hW2; have HB2 := hide B2; have HR2 := hide R2; have HF2 := hide F2; have HK := hide hk; have HNn := hide hn
      clear hb1 HF hW2 b2 a2 B2 R2 F2 hk hvl hn
      generalize bya q = D at *
      go_wp2_with (refine wpList_storeFA rfl _ _ rfl K D n rfl rfl ?_)
      rw [← HW2.out]
      refine (unhide HC).mono ?_
      rintro e w3 ⟨⟨hb3, ho3⟩, ⟨a', v', hr, rfl, ha3, hv3⟩ | ⟨hr, rfl, ha3⟩⟩
      · obtain ⟨hst, hgd⟩ := HI.out.step HK.out hr
        have R3 : w3.heap[w.heap.size]? = some (.cells (arV 0 false 0 (.slice none 0 0)) 74 (0, 0)) := (ho3 _ (by omega) (by omega) (fun e => by have := (row_lt HM.out.1.list _ e).1; omega)).trans HR2.out
        have F3 : w3.heap[w1.heap.size]? = some (.cells #[.int .i64 (K : Int), .string D, .int .i64 n] 149 (0, 0)) := (ho3 _ hz2 (by omega) (fun e => by have := HVl.out _ e; omega)).trans HF2.out
        have k2 : w3.cell? ⟨w1.heap.size, 2, none⟩ = some (.int .i64 n) := cell_row F3 2
        have B3 : Below w.heap.size w w3 := HB2.out.trans (hb3.mono (by omega))
        have g2 : w3.cell? ⟨w.heap.size + 1, 2, none⟩ = some (.int .i64 (a.good : Int)) := ha3.cell 2
        have f2 := ha3.frozen 2
        have hn' : n = (q.length : Int) + 8 := by rw [HNn.out]; omega
        have hsm : (a.good : Int) + n = (a'.good : Int) := by rw [hn', hgd]; omega
        have hnb : (0 : Int) ≤ n ∧ n ≤ 208 := by omega
        have ha4 : ArAt (w.heap.size + 1) a' v' (w3.setCell ⟨w.heap.size + 1, 2, none⟩ (.int .i64 (a'.good : Int))) := ha3.turn (a' := a') 2 _ rfl rfl
        have HA4 := hide ha4
        have HR4 : Hid ((w3.setCell ⟨w.heap.size + 1, 2, none⟩ (.int .i64 (a'.good : Int))).heap[w.heap.size]? = some (.cells (arV 0 false 0 (.slice none 0 0)) 74 (0, 0))) := (heap_set_other _ _ (by omega)).trans R3
        have HB4 : Hid (Below w.heap.size w (w3.setCell ⟨w.heap.size + 1, 2, none⟩ (.int .i64 (a'.good : Int)))) := B3.setCell (p := ⟨w.heap.size + 1, 2, none⟩) (Nat.le_succ _) _
        have HSt := hide hst
        have HGd := hide hgd
        have HMe : Hid (s.size - goodOf (w.heap.size + 1) (w3.setCell ⟨w.heap.size + 1, 2, none⟩ (.int .i64 (a'.good : Int))) < s.size - goodOf (w.heap.size + 1) wr) := by
          unfold Hid
          rw [ha4.good, HM.out.1.good]
          have := hst.le
          omega
        clear hb3 ho3 ha3 hv3 R3 F3 B3 ha4 hst hgd hr HC HK hn'
        go_wp2_with fail
        exact ⟨⟨a', v', HSt.out, HA4.out, HR4.out, HB4.out⟩, HMe.out⟩
      · have HSc := hide (HI.out.stop2 HK.out hr)
        have R3 : w3.heap[w.heap.size]? = some (.cells (arV 0 false 0 (.slice none 0 0)) 74 (0, 0)) := (ho3 _ (by omega) (by omega) (fun e => by have := (row_lt HM.out.1.list _ e).1; omega)).trans HR2.out
        have B3 : Below w.heap.size w w3 := HB2.out.trans (hb3.mono (by omega))
        have HEnd := hide (scan_end HSc.out ha3 B3 _ R3)
        have hone := arV_one a.gen a.whole a.good v (own_one HM.out.1.list)
        have HA3 := hide ha3; have HR3 := hide R3
        clear hb3 ho3 ha3 R3 B3 hr HC HK
        go_wp2_with (first | (refine wpList_load_row rfl 74 _ rfl (w.heap.size + 1) rfl 74 (arV a.gen a.whole a.good v) (0, 0) _ HA3.out.cells Tryd.underlying74 rfl size74 ?_) | (refine wpList_store_row rfl 74 _ _ rfl w.heap.size (arV a.gen a.whole a.good v) rfl rfl 74 _ HR3.out size74 rfl hone ?_))
        exact bodyPost_ret (v := .agg (arV a.gen a.whole a.good v)) (results_cell_row Tryd.results70 _ _ w.heap.size 74 _ _ _ rfl HEnd.out.1 Tryd.underlying74 rfl size74) rfl HEnd.out.2
end Go.Proofs.YtmmflekajbeamaaDoor

namespace Go.Proofs.YtmmflekajbeamaaDoor
open Go.RowKit

set_option maxRecDepth 100000 in
set_option maxHeartbeats 8000000 in
theorem refScan_any (s : ByteArray) (w : World) (hs : s.size ≤ 1048576) :
    Calls Tryd.prog 66 #[.string s] w (ScanPost s w) := by
  have zz := zero74
  obtain ⟨inf, hinf, hzi, hsz1, hby⟩ := infoKn
  have HInf := hide hinf; have HZi := hide hzi; have HSz := hide hsz1; have HBy := hide hby
  clear hinf hzi hsz1 hby
  obtain ⟨W0, hW0⟩ : ∃ W0, W0 = (w.alloc (.cells (arV 0 false 0 (.slice none 0 0)) 74)).alloc (.cells (arV 0 false 0 (.slice none 0 0)) 74) := ⟨_, rfl⟩
  have HW0 := hide hW0
  have hb0 : Below w.heap.size w W0 := by rw [hW0]; exact ((Below.refl _ _).alloc (Nat.le_refl _) _).alloc (by rw [size_alloc1]; omega) _
  have r0 : W0.heap[w.heap.size]? = some (.cells (arV 0 false 0 (.slice none 0 0)) 74 (0, 0)) := by rw [hW0, Below.heap_alloc _ _ _ (by rw [size_alloc1]; omega), _root_.Go.heap_alloc_new]
  have a0 : ArAt (w.heap.size + 1) ar0 (.slice none 0 0) W0 := by
    refine ⟨?_, World.ownsRow_nil _ _ _ _⟩
    rw [hW0]
    have := _root_.Go.heap_alloc_new (w.alloc (.cells (arV 0 false 0 (.slice none 0 0)) 74)) (.cells (arV 0 false 0 (.slice none 0 0)) 74)
    rw [size_alloc1] at this
    exact this
  have H0 : Hid (Below w.heap.size w W0 ∧ W0.heap[w.heap.size]? = some (.cells (arV 0 false 0 (.slice none 0 0)) 74 (0, 0)) ∧ ArAt (w.heap.size + 1) ar0 (.slice none 0 0) W0) := ⟨hb0, r0, a0⟩
  have HS0 : Hid (s = bya ((lst s).drop ar0.good)) := by unfold Hid ar0; rw [List.drop_zero, bya_lst]
  clear hb0 r0 a0 hW0
  go_enter Tryd.func66, Tryd.ntmps66
  go_wp2_with fail
  rw [← HW0.out]
  go_loopw [0] (fun sv wr => ∃ (a : ArN) (v : Value) (D : ByteArray), sv = .string D ∧ Hid (D = bya ((lst s).drop a.good)) ∧ Hid (ScI s a) ∧ Hid (ArAt (w.heap.size + 1) a v wr ∧ wr.heap[w.heap.size]? = some (.cells (arV 0 false 0 (.slice none 0 0)) 74 (0, 0)) ∧ Below w.heap.size w wr)) (fun _ wr => s.size - goodOf (w.heap.size + 1) wr)
  case atStart => exact ⟨ar0, .slice none 0 0, s, rfl, HS0.out, ScI.zero s, H0.out.2.2, H0.out.2.1, H0.out.1⟩
  case round =>
    obtain ⟨a, v, D, rfl, HD, HI, HM⟩ := hrel
    have hA := HM.out.1.lt
    have hDz : D.size = s.size - a.good := by rw [HD.out, bya_size, List.length_drop, lst_len]
    have hle0 := HI.out.le
    have HF := hide (refFirst_any D wr (by omega))
    have HLs : Hid (lst D = (lst s).drop a.good) := by unfold Hid; rw [HD.out, lst_bya]
    have HDz := hide hDz
    have hone := arV_one a.gen a.whole a.good v (own_one HM.out.1.list)
    clear hDz
    go_wp2_with fail
    refine (unhide HF).mono ?_
    rintro e w1 ⟨hb1, k, p, rfl, hf⟩
    unfold FstIs at hf
    rw [HLs.out] at hf
    have hz1 := hb1.size
    have HM1 : Hid (ArAt (w.heap.size + 1) a v w1 ∧ w1.heap[w.heap.size]? = some (.cells (arV 0 false 0 (.slice none 0 0)) 74 (0, 0)) ∧ Below w.heap.size w w1) := ⟨HM.out.1.above hb1, (hb1.block _ (by omega)).trans HM.out.2.1, HM.out.2.2.trans (hb1.mono (by omega))⟩
    have HE0 : Hid (scan (lst s) = a → (w1.setRow w.heap.size (arV a.gen a.whole a.good v)).heap[w.heap.size]? = some (.cells (arV a.gen a.whole a.good v) 74 (0, 0)) ∧ ScanPost s w (.returned (.agg (arV a.gen a.whole a.good v))) (w1.setRow w.heap.size (arV a.gen a.whole a.good v))) := fun he => scan_end he HM1.out.1 HM1.out.2.2 _ HM1.out.2.1
    clear hb1 HF
    rcases hf with ⟨hn, rfl, rfl⟩ | ⟨K, q, hk, rfl, rfl⟩
    · have HEnd := hide (HE0.out (HI.out.stop hn))
      clear hn
      generalize bya [] = D0 at *
      go_wp2_with (first | (refine wpList_load_row rfl 74 _ rfl (w.heap.size + 1) rfl 74 (arV a.gen a.whole a.good v) (0, 0) _ HM1.out.1.cells Tryd.underlying74 rfl size74 ?_) | (refine wpList_store_row rfl 74 _ _ rfl w.heap.size (arV a.gen a.whole a.good v) rfl rfl 74 _ HM1.out.2.1 size74 rfl hone ?_))
      exact bodyPost_ret (v := .agg (arV a.gen a.whole a.good v)) (results_cell_row Tryd.results66 _ _ w.heap.size 74 _ _ _ rfl HEnd.out.1 Tryd.underlying74 rfl size74) rfl HEnd.out.2
    have hK1 := (frst_some hk).1
    have hK3 := (frst_some hk).2.1
    have hq200 := (frst_some hk).2.2.1
    have hqle := (frst_some hk).2.2.2.1
    rw [List.length_drop, lst_len] at hqle
    have c0 : ((K : Int) == 0) = false := by rw [beq_eq_false_iff_ne]; omega
    have g0 : w1.cell? ⟨w.heap.size + 1, 0, none⟩ = some (.int .i64 (a.gen : Int)) := HM1.out.1.cell 0
    have f0 := HM1.out.1.frozen 0
    have g1 : w1.cell? ⟨w.heap.size + 1, 1, none⟩ = some (.bool a.whole) := HM1.out.1.cell 1
    have f1 := HM1.out.1.frozen 1
    have g2 : w1.cell? ⟨w.heap.size + 1, 2, none⟩ = some (.int .i64 (a.good : Int)) := HM1.out.1.cell 2
    have f2 := HM1.out.1.frozen 2
    have g3 : w1.cell? ⟨w.heap.size + 1, 3, none⟩ = some v := HM1.out.1.cell 3
    have f3 := HM1.out.1.frozen 3
    have hqz : (bya q).size = q.length := bya_size q
    have HST := hide (fun (h : arT a K q = none) => HE0.out (HI.out.stop2 hk h))
    have HSP := hide (fun a' (h : arT a K q = some a') => HI.out.step hk h)
    have HGd := hide HM.out.1.good
    -- going on behind a frame that was taken
    have HGo : Hid (∀ (a' : ArN) (v' : Value) (w3 : World), arT a K q = some a' → ArAt (w.heap.size + 1) ⟨a'.gen, a'.whole, a.good, a'.list⟩ v' w3 → w3.heap[w.heap.size]? = some (.cells (arV 0 false 0 (.slice none 0 0)) 74 (0, 0)) → Below w.heap.size w w3 →
        (∃ (a : ArN) (v : Value) (D' : ByteArray), Value.string (D.extract (q.length + 8) D.size) = .string D' ∧ Hid (D' = bya ((lst s).drop a.good)) ∧ Hid (ScI s a) ∧ Hid (ArAt (w.heap.size + 1) a v (w3.setCell ⟨w.heap.size + 1, 2, none⟩ (.int .i64 ((a'.good : Nat) : Int))) ∧ (w3.setCell ⟨w.heap.size + 1, 2, none⟩ (.int .i64 ((a'.good : Nat) : Int))).heap[w.heap.size]? = some (.cells (arV 0 false 0 (.slice none 0 0)) 74 (0, 0)) ∧ Below w.heap.size w (w3.setCell ⟨w.heap.size + 1, 2, none⟩ (.int .i64 ((a'.good : Nat) : Int))))) ∧
        s.size - goodOf (w.heap.size + 1) (w3.setCell ⟨w.heap.size + 1, 2, none⟩ (.int .i64 ((a'.good : Nat) : Int))) < s.size - goodOf (w.heap.size + 1) wr) := fun a' v' w3 hr ha3 hR3 hB3 => by
      obtain ⟨hst, hgd⟩ := HI.out.step hk hr
      have ha4 : ArAt (w.heap.size + 1) a' v' (w3.setCell ⟨w.heap.size + 1, 2, none⟩ (.int .i64 (a'.good : Int))) := ha3.turn (a' := a') 2 _ rfl rfl
      refine ⟨⟨a', v', _, rfl, ?_, hst, ha4, (heap_set_other _ _ (by omega)).trans hR3, hB3.setCell (p := ⟨w.heap.size + 1, 2, none⟩) (Nat.le_succ _) _⟩, ?_⟩
      · unfold Hid
        rw [← bya_lst (D.extract _ _), lst_ext, HLs.out, List.drop_drop, ← hgd, List.take_of_length_le (by rw [List.length_drop, lst_len, HDz.out]; omega)]
      · rw [ha4.good, HGd.out]
        have := hst.le
        omega
    have e2 : Hid ((bya q).size = q.length) := hqz
    have v1 : ((bya q).size : Int) + 8 ≤ (D.size : Int) := by have := HDz.out; omega
    have v2 : (0 : Int) ≤ ((bya q).size : Int) + 8 := by omega
    have v3 : (((bya q).size : Int) + 8).toNat = (bya q).size + 8 := by omega
    have v4 : ((bya q).size : Int) ≤ 200 := by omega
    have v5 : (a.good : Int) ≤ 1048576 := by omega
    have HEq : Hid ((a.good : Int) + ((bya q).size : Int) + 8 = ((a.good + (q.length + 8) : Nat) : Int)) := by unfold Hid; omega
    have HV := hide (fun w' (hl : q.length = 4) => valueB_any (bya q) 0 4 w' (by decide) (by omega) (by omega))
    have hbX : beN (bya q) 0 4 < 4294967296 := beN_lt (bya q) 0 4
    have hqbF : q ≠ [] → ((bya q).toList == ([] : List UInt8)) = false := bya_ne
    have hqbT : q = [] → ((bya q).toList == ([] : List UInt8)) = true := fun e => by rw [e, ByteArray.toList_eq, bya_list]; rfl
    have HFw := hide (Nat.le_trans HI.out.few HI.out.le)
    clear hqz HE0 hk HI HD HGd
    by_cases hg : a.gen = 0
    · have hAr := arT_open hg K q
      have hgt : ((a.gen : Int) == 0) = true := by rw [beq_iff_eq]; omega
      have hgp : ¬ (0 : Int) < (a.gen : Int) := by omega
      by_cases hk1 : K = 1
      · have hk1t : ((K : Int) == 1) = true := by rw [beq_iff_eq]; omega
        have hk1n : ((K : Int) != 1) = false := by rw [bne_eq_false_iff_eq]; omega
        by_cases hl4 : q.length = 4
        · have hz4 : ((bya q).size : Int) = 4 := by have := e2.out; omega
          by_cases hx : beN (bya q) 0 4 = 0
          · have HEnd := hide (HST.out (by rw [hAr]; exact if_neg (fun h => h.2.2 hx)))
            have HVv := hide (fun w' => HV.out w' hl4)
            rw [hx] at HVv
            have HG := hide hg
            clear hg hAr hk1 hl4 hx HGo HST HSP HV hqbF hqbT hbX HEq v1 v2 v3
            generalize bya q = P at *
            go_wp2_with fail
            refine (unhide HVv _).mono ?_
            rintro e w' ⟨rfl, hw⟩
            obtain rfl := hw.symm
            go_wp2_with (first | (refine wpList_load_row rfl 74 _ rfl (w.heap.size + 1) rfl 74 (arV a.gen a.whole a.good v) (0, 0) _ HM1.out.1.cells Tryd.underlying74 rfl size74 ?_) | (refine wpList_store_row rfl 74 _ _ rfl w.heap.size (arV a.gen a.whole a.good v) rfl rfl 74 _ HM1.out.2.1 size74 rfl hone ?_))
            exact bodyPost_ret (v := .agg (arV a.gen a.whole a.good v)) (results_cell_row Tryd.results66 _ _ w.heap.size 74 _ _ _ rfl HEnd.out.1 Tryd.underlying74 rfl size74) rfl HEnd.out.2
          · have hr : arT a K q = some ⟨beN (bya q) 0 4, a.whole, a.good + (q.length + 8), a.list⟩ := by rw [hAr]; exact if_pos ⟨hk1, hl4, hx⟩
            have ha3 : ArAt (w.heap.size + 1) ⟨beN (bya q) 0 4, a.whole, a.good, a.list⟩ v (w1.setCell ⟨w.heap.size + 1, 0, none⟩ (.int .i64 (beN (bya q) 0 4 : Int))) := HM1.out.1.turn (a' := ⟨beN (bya q) 0 4, a.whole, a.good, a.list⟩) 0 _ rfl rfl
            have HFin := hide (HGo.out _ v _ hr ha3 ((heap_set_other _ _ (by omega)).trans HM1.out.2.1) (HM1.out.2.2.setCell (p := ⟨w.heap.size + 1, 0, none⟩) (Nat.le_succ _) _))
            rw [hl4] at HFin
            have HVv := hide (fun w' => HV.out w' hl4)
            have hx1 : ((beN (bya q) 0 4 : Int) == 0) = false := by rw [beq_eq_false_iff_ne]; omega
            clear hg hAr hk1 hl4 hx HGo HST HSP HV hqbF hqbT hr ha3
            generalize beN (bya q) 0 4 = X at *
            generalize bya q = P at *
            go_wp2_with fail
            refine (unhide HVv _).mono ?_
            rintro e w' ⟨rfl, hw⟩
            obtain rfl := hw.symm
            go_wp2_with fail
            refine (unhide HVv _).mono ?_
            rintro e w' ⟨rfl, hw⟩
            obtain rfl := hw.symm
            go_wp2_with fail
            rw [show (a.good : Int) + 4 + 8 = ((a.good + (4 + 8) : Nat) : Int) by omega]
            exact HFin.out
        · have HEnd := hide (HST.out (by rw [hAr]; exact if_neg (fun h => hl4 h.2.1)))
          have hz4 : (((bya q).size : Int) == 4) = false := by have := e2.out; rw [beq_eq_false_iff_ne]; omega
          have hz4n : (((bya q).size : Int) != 4) = true := by have := e2.out; rw [bne_iff_ne]; omega
          have HG := hide hg
          clear hg hAr hk1 hl4 HGo HST HSP HV hqbF hqbT hbX HEq v1 v2 v3
          generalize bya q = P at *
          go_wp2_with (first | (refine wpList_load_row rfl 74 _ rfl (w.heap.size + 1) rfl 74 (arV a.gen a.whole a.good v) (0, 0) _ HM1.out.1.cells Tryd.underlying74 rfl size74 ?_) | (refine wpList_store_row rfl 74 _ _ rfl w.heap.size (arV a.gen a.whole a.good v) rfl rfl 74 _ HM1.out.2.1 size74 rfl hone ?_))
          exact bodyPost_ret (v := .agg (arV a.gen a.whole a.good v)) (results_cell_row Tryd.results66 _ _ w.heap.size 74 _ _ _ rfl HEnd.out.1 Tryd.underlying74 rfl size74) rfl HEnd.out.2
      · have HEnd := hide (HST.out (by rw [hAr]; exact if_neg (fun h => hk1 h.1)))
        have hk1f : ((K : Int) == 1) = false := by rw [beq_eq_false_iff_ne]; omega
        have hk1n : ((K : Int) != 1) = true := by rw [bne_iff_ne]; omega
        have HG := hide hg
        clear hg hAr hk1 HGo HST HSP HV hqbF hqbT hbX HEq v1 v2 v3
        generalize bya q = P at *
        go_wp2_with (first | (refine wpList_load_row rfl 74 _ rfl (w.heap.size + 1) rfl 74 (arV a.gen a.whole a.good v) (0, 0) _ HM1.out.1.cells Tryd.underlying74 rfl size74 ?_) | (refine wpList_store_row rfl 74 _ _ rfl w.heap.size (arV a.gen a.whole a.good v) rfl rfl 74 _ HM1.out.2.1 size74 rfl hone ?_))
        exact bodyPost_ret (v := .agg (arV a.gen a.whole a.good v)) (results_cell_row Tryd.results66 _ _ w.heap.size 74 _ _ _ rfl HEnd.out.1 Tryd.underlying74 rfl size74) rfl HEnd.out.2
    · have hgf : ((a.gen : Int) == 0) = false := by rw [beq_eq_false_iff_ne]; omega
      have hgp : (0 : Int) < (a.gen : Int) := by omega
      by_cases hk1 : K = 1
      · have HEnd := hide (HST.out (arT_other hg (by omega) (by omega) q))
        have hk1t : ((K : Int) == 1) = true := by rw [beq_iff_eq]; omega
        clear hk1 hg HGo HST HSP HV hqbF hqbT hbX HEq v1 v2 v3
        generalize bya q = P at *
        go_wp2_with (first | (refine wpList_load_row rfl 74 _ rfl (w.heap.size + 1) rfl 74 (arV a.gen a.whole a.good v) (0, 0) _ HM1.out.1.cells Tryd.underlying74 rfl size74 ?_) | (refine wpList_store_row rfl 74 _ _ rfl w.heap.size (arV a.gen a.whole a.good v) rfl rfl 74 _ HM1.out.2.1 size74 rfl hone ?_))
        exact bodyPost_ret (v := .agg (arV a.gen a.whole a.good v)) (results_cell_row Tryd.results66 _ _ w.heap.size 74 _ _ _ rfl HEnd.out.1 Tryd.underlying74 rfl size74) rfl HEnd.out.2
      have hk1f : ((K : Int) == 1) = false := by rw [beq_eq_false_iff_ne]; omega
      by_cases hk2 : K = 2
      · have hAr := arT_entry hg hk2 q
        have hk2t : ((K : Int) == 2) = true := by rw [beq_iff_eq]; omega
        have hc0 : (q.getD 0 0).toNat = bt (bya q) 0 := by rw [← bya_get]; rfl
        unfold rEntry at hAr
        rw [hc0] at hAr
        by_cases hqe : q = []
        · have HEnd := hide (HST.out (by rw [hAr]; exact if_neg (fun h => h.1 hqe)))
          have hqb := hqbT hqe
          clear hk1 hk2 hg hAr hqe HGo HST HSP HV hqbF hqbT hbX HEq v1 v2 v3 hc0
          generalize bya q = P at *
          go_wp2_with (first | (refine wpList_load_row rfl 74 _ rfl (w.heap.size + 1) rfl 74 (arV a.gen a.whole a.good v) (0, 0) _ HM1.out.1.cells Tryd.underlying74 rfl size74 ?_) | (refine wpList_store_row rfl 74 _ _ rfl w.heap.size (arV a.gen a.whole a.good v) rfl rfl 74 _ HM1.out.2.1 size74 rfl hone ?_))
          exact bodyPost_ret (v := .agg (arV a.gen a.whole a.good v)) (results_cell_row Tryd.results66 _ _ w.heap.size 74 _ _ _ rfl HEnd.out.1 Tryd.underlying74 rfl size74) rfl HEnd.out.2
        have hqb := hqbF hqe
        have hq1 : 1 ≤ q.length := by cases q with | nil => exact absurd rfl hqe | cons _ _ => simp
        have hP0 : 0 < (bya q).size := by have := e2.out; omega
        have hg0' := bt_get (bya q) 0 hP0
        have hbl := bt_lt (bya q) 0
        by_cases hcl : q.length < 1 + 4 * bt (bya q) 0
        · have HEnd := hide (HST.out (by rw [hAr]; exact if_neg (fun h => by have := h.2.1; omega)))
          have hcl' : ((bya q).size : Int) < 1 + 4 * (bt (bya q) 0 : Int) := by have := e2.out; omega
          clear hk1 hk2 hg hAr hqe HGo HST HSP HV hqbF hqbT hbX HEq v1 v2 v3 hc0 hcl
          generalize bt (bya q) 0 = c at *
          generalize bya q = P at *
          go_wp2_with (first | (refine wpList_load_row rfl 74 _ rfl (w.heap.size + 1) rfl 74 (arV a.gen a.whole a.good v) (0, 0) _ HM1.out.1.cells Tryd.underlying74 rfl size74 ?_) | (refine wpList_store_row rfl 74 _ _ rfl w.heap.size (arV a.gen a.whole a.good v) rfl rfl 74 _ HM1.out.2.1 size74 rfl hone ?_))
          exact bodyPost_ret (v := .agg (arV a.gen a.whole a.good v)) (results_cell_row Tryd.results66 _ _ w.heap.size 74 _ _ _ rfl HEnd.out.1 Tryd.underlying74 rfl size74) rfl HEnd.out.2
        have u1 : 1 + 4 * (bt (bya q) 0 : Int) ≤ ((bya q).size : Int) := by have := e2.out; omega
        have u2 : ¬ ((bya q).size : Int) < 1 + 4 * (bt (bya q) 0 : Int) := by omega
        have u3 : (1 + 4 * (bt (bya q) 0 : Int)).toNat = 1 + 4 * bt (bya q) 0 := by omega
        have u4 : (1 : Int) ≤ 1 + 4 * (bt (bya q) 0 : Int) := by omega
        have hWz : ((bya q).extract 1 (1 + 4 * bt (bya q) 0)).size = 4 * bt (bya q) 0 := by rw [ByteArray.size_extract]; have := e2.out; omega
        have hWl : lst ((bya q).extract 1 (1 + 4 * bt (bya q) 0)) = (q.drop 1).take (4 * bt (bya q) 0) := by rw [lst_ext, lst_bya, show 1 + 4 * bt (bya q) 0 - 1 = 4 * bt (bya q) 0 by omega]
        have hPl : lst ((bya q).extract (4 * bt (bya q) 0 + 1) (bya q).size) = q.drop (1 + 4 * bt (bya q) 0) := by
          rw [lst_ext, lst_bya, Nat.add_comm (4 * bt (bya q) 0) 1, List.take_of_length_le (by rw [List.length_drop, bya_size]; exact Nat.le_refl _)]
        have hBk : blkB (bya ((q.drop 1).take (4 * bt (bya q) 0))) = true ↔ blkOK ((bya q).extract 1 (1 + 4 * bt (bya q) 0)) := by rw [blkB_iff, ← hWl, bya_lst]
        by_cases hbk : blkOK ((bya q).extract 1 (1 + 4 * bt (bya q) 0))
        · have hr : arT a K q = some ⟨a.gen, a.whole, a.good + (q.length + 8), a.list ++ [((q.drop 1).take (4 * bt (bya q) 0), q.drop (1 + 4 * bt (bya q) 0))]⟩ := by rw [hAr]; exact if_pos ⟨hqe, by omega, hBk.2 hbk⟩
          have hPl2 : lst ((bya q).extract (((bya q).extract 1 (1 + 4 * bt (bya q) 0)).size + 1) (bya q).size) = q.drop (1 + 4 * bt (bya q) 0) := by rw [hWz]; exact hPl
          rw [← hWl, ← hPl2] at hr
          have HIb := hide (fun w' => isBlock_yes _ w' hbk)
          have hal : a.list.length ≤ 2000000 := by have := HFw.out; omega
          have HRr := hide hr
          have HOv := hide HM1.out.1.list
          have HWz := hide hWz
          have hWi : ((((bya q).extract 1 (1 + 4 * bt (bya q) 0)).size : Nat) : Int) + 1 ≤ ((bya q).size : Int) := by omega
          have hWi0 : (0 : Int) ≤ ((((bya q).extract 1 (1 + 4 * bt (bya q) 0)).size : Nat) : Int) + 1 := by omega
          have hWn : (((((bya q).extract 1 (1 + 4 * bt (bya q) 0)).size : Nat) : Int) + 1).toNat = ((bya q).extract 1 (1 + 4 * bt (bya q) 0)).size + 1 := by omega
          have hWw : IntKind.i64.wrap (((((bya q).extract 1 (1 + 4 * bt (bya q) 0)).size : Nat) : Int) + 1) = ((((bya q).extract 1 (1 + 4 * bt (bya q) 0)).size : Nat) : Int) + 1 := by rw [IntKind.wrap_i64]; omega
          clear hk1 hk2 hg hAr hqe HST HSP HV hqbF hqbT hbX hc0 hcl hr hWl hPl hPl2 hBk hbk hWz
          generalize bt (bya q) 0 = c at *
          generalize bya q = P at *
          go_upto_region 14 with fail
          generalize P.extract 1 (1 + 4 * c) = Wd at *
          go_wp2_with fail
          refine (unhide HIb _).mono ?_
          rintro e w' ⟨rfl, hw⟩
          obtain rfl := hw.symm
          go_upto_region 17 with fail
          refine held_pick [0, 1, 2, 3, 4, 5, 6, 7] [8, 9, 10, 11, 12] 11 (fun w' => w'.cell? ⟨w.heap.size + 1, 3, none⟩ = some v) (by kernel_rfl) (by kernel_rfl) (fun d _ _ _ _ h => by cases d <;> exact h) g3 ?_
          iterate 8
            refine wpTakeI_step ?_ rfl rfl ?_ ?_
            rotate_left
            · intro w' d0
              go_simp
              rfl
            go_simp
          refine wpTakeI_nil ?_
          refine wpTailI_step rfl rfl (fun K2 hK2 => ?_)
          go_simp
          refine hK2 _ _ (fun _ => g3) ?_
          clear hK2 K2
          refine wpTailI_step rfl rfl (fun K2 hK2 => ?_)
          go_simp
          refine hK2 _ _ (fun _ => (World.cell?_of_block (Below.heap_alloc w1.drew _ (w.heap.size + 1) (show w.heap.size + 1 < w1.heap.size by omega))).trans g3) ?_
          clear hK2 K2
          refine wpTailI_step rfl rfl (fun K2 hK2 => ?_)
          refine wp_append_lies _ _ _ 70 rfl (w.heap.size + 1 + 1) 72 inf _ 2 32 Tryd.underlying70 HInf.out HZi.out HSz.out HBy.out rfl (by decide) v a.list.length (knCs a.list) rfl ((own_grow HOv.out (show Below w1.heap.size w1 w1.drew from (Below.refl _ w1).drew)).alloc _) ⟨w1.heap.size, 0, none⟩ 1 1 [.string Wd, .string (P.extract (Wd.size + 1) P.size)] rfl rfl (World.news_of_block (_root_.Go.heap_alloc_new w1.drew _)) (fun u hu => by simp at hu; rcases hu with rfl | rfl <;> rfl) (by decide) (by unfold maxLen; omega) (by omega) (by show w.heap.size + 1 + 1 ≤ (w1.drew.alloc _).heap.size; rw [size_alloc1]; show _ ≤ w1.heap.size + 1; omega) (w1.heap.size + 1) (by show (w1.drew.alloc _).heap.size = _; rw [size_alloc1]; rfl) ?_
          intro g cap w6 hown6 hgr hat hlt6
          have hA6 : w6.heap[w.heap.size + 1]? = w1.heap[w.heap.size + 1]? := (hgr.block _ (by show w.heap.size + 1 < (w1.drew.alloc _).heap.size; rw [size_alloc1]; show _ < w1.heap.size + 1; omega) (fun e => by have := (row_lt HOv.out _ e.symm).1; omega)).trans (Below.heap_alloc w1.drew _ _ (show w.heap.size + 1 < w1.heap.size by omega))
          have hR6 : w6.heap[w.heap.size]? = w1.heap[w.heap.size]? := (hgr.block _ (by show w.heap.size < (w1.drew.alloc _).heap.size; rw [size_alloc1]; show _ < w1.heap.size + 1; omega) (fun e => by have := (row_lt HOv.out _ e.symm).1; omega)).trans (Below.heap_alloc w1.drew _ _ (show w.heap.size < w1.heap.size by omega))
          have hB6 : Below w.heap.size w w6 := ((HM1.out.2.2.trans (show Below w.heap.size w1 w1.drew from (Below.refl _ w1).drew)).alloc (show w.heap.size ≤ w1.heap.size by omega) _).grown hgr (by rw [size_alloc1]; show _ ≤ w1.heap.size + 1; omega) (fun q hq => by have := (row_lt HOv.out q hq).1; omega)
          have c6 : w6.cell? ⟨w.heap.size + 1, 3, none⟩ = some v := (World.cell?_of_block hA6).trans g3
          have f6 : w6.frozen? ⟨w.heap.size + 1, 3, none⟩ = false := (World.frozen?_of_block hA6).trans f3
          have d6 : w6.cell? ⟨w.heap.size + 1, 2, none⟩ = some (.int .i64 (a.good : Int)) := (World.cell?_of_block hA6).trans g2
          have e6 : w6.frozen? ⟨w.heap.size + 1, 2, none⟩ = false := (World.frozen?_of_block hA6).trans f2
          refine hK2 _ _ (fun _ => c6) ?_
          have ha3 : ArAt (w.heap.size + 1) ⟨a.gen, a.whole, a.good, a.list ++ [(lst Wd, lst (P.extract (Wd.size + 1) P.size))]⟩ (.slice (some ⟨g, 0, none⟩) (a.list.length + 1) cap) (w6.setCell ⟨w.heap.size + 1, 3, none⟩ (.slice (some ⟨g, 0, none⟩) (a.list.length + 1) cap)) := by
            refine ⟨?_, ?_⟩
            · have hcA : w6.heap[w.heap.size + 1]? = some (.cells (arV a.gen a.whole a.good v) 74 (0, 0)) := hA6.trans HM1.out.1.cells
              obtain ⟨hlt, hk⟩ := Array.getElem?_eq_some_iff.1 hcA
              show (w6.heap.modify (w.heap.size + 1) _)[w.heap.size + 1]? = _
              rw [Array.getElem?_eq_getElem (by rw [Array.size_modify]; exact hlt), Array.getElem_modify_self, hk]
              rfl
            · have e : knCs (a.list ++ [(lst Wd, lst (P.extract (Wd.size + 1) P.size))]) = knCs a.list ++ [.string Wd, .string (P.extract (Wd.size + 1) P.size)] := by rw [knCs_snoc, bya_lst, bya_lst]
              show World.ownsRow _ _ _ _ _ (a.list ++ [_]).length (knCs (a.list ++ [_]))
              rw [e, List.length_append]
              refine ownsRow_keep hown6 (fun g' hg' => heap_set_other _ _ (fun e => ?_))
              have := (row_lt hown6 g' hg').1
              omega
          have HFin := hide (HGo.out _ _ _ HRr.out ha3 ((heap_set_other _ _ (by omega)).trans (hR6.trans HM1.out.2.1)) (hB6.setCell (p := ⟨w.heap.size + 1, 3, none⟩) (Nat.le_succ _) _))
          clear hK2 K2 hown6 hgr hat hlt6 hA6 hR6 hB6 ha3 HGo g0 g1 g2 g3 f0 f1 f2 f3
          refine wpTailI_step rfl rfl (fun K2 hK2 => ?_)
          go_simp
          refine hK2 _ _ (fun h => absurd h (by decide)) ?_
          clear hK2 K2
          refine wpTailI_step rfl rfl (fun K2 hK2 => ?_)
          go_simp
          refine hK2 _ _ (fun h => absurd h (by decide)) ?_
          clear hK2 K2
          refine wpTailI_nil ?_
          go_wp2_with fail
          rw [HEq.out, e2.out]
          exact HFin.out
        · have HEnd := hide (HST.out (by rw [hAr]; exact if_neg (fun h => hbk (hBk.1 h.2.2))))
          have HIb := hide (fun w' => isBlock_no _ w' hbk (by unfold maxLen; omega))
          clear hk1 hk2 hg hAr hqe HGo HST HSP HV hqbF hqbT hbX HEq v1 v2 v3 hc0 hcl hWl hPl hBk hbk hWz
          generalize bt (bya q) 0 = c at *
          generalize bya q = P at *
          go_wp2_with fail
          refine (unhide HIb _).mono ?_
          rintro e w' ⟨rfl, hw⟩
          obtain rfl := hw.symm
          go_wp2_with (first | (refine wpList_load_row rfl 74 _ rfl (w.heap.size + 1) rfl 74 (arV a.gen a.whole a.good v) (0, 0) _ HM1.out.1.cells Tryd.underlying74 rfl size74 ?_) | (refine wpList_store_row rfl 74 _ _ rfl w.heap.size (arV a.gen a.whole a.good v) rfl rfl 74 _ HM1.out.2.1 size74 rfl hone ?_))
          exact bodyPost_ret (v := .agg (arV a.gen a.whole a.good v)) (results_cell_row Tryd.results66 _ _ w.heap.size 74 _ _ _ rfl HEnd.out.1 Tryd.underlying74 rfl size74) rfl HEnd.out.2
      have hk2f : ((K : Int) == 2) = false := by rw [beq_eq_false_iff_ne]; omega
      have hAr := arT_whole hg (show K = 3 by omega) q
      unfold rWhole at hAr
      cases hwh : a.whole
      · by_cases hqe : q = []
        · have hr : arT a K q = some ⟨a.gen, true, a.good + (q.length + 8), a.list⟩ := by rw [hAr]; exact if_pos ⟨hwh, hqe⟩
          have ha3 : ArAt (w.heap.size + 1) ⟨a.gen, true, a.good, a.list⟩ v (w1.setCell ⟨w.heap.size + 1, 1, none⟩ (.bool true)) := HM1.out.1.turn (a' := ⟨a.gen, true, a.good, a.list⟩) 1 _ rfl rfl
          have HFin := hide (HGo.out _ v _ hr ha3 ((heap_set_other _ _ (by omega)).trans HM1.out.2.1) (HM1.out.2.2.setCell (p := ⟨w.heap.size + 1, 1, none⟩) (Nat.le_succ _) _))
          have hqb := hqbT hqe
          rw [hwh] at g1
          clear hk1 hk2 hg hAr hqe HGo HST HSP HV hqbF hqbT hbX hr ha3
          generalize bya q = P at *
          go_wp2_with fail
          rw [HEq.out, e2.out]
          exact HFin.out
        · have HEnd := hide (HST.out (by rw [hAr]; exact if_neg (fun h => hqe h.2)))
          have hqb := hqbF hqe
          have hw1 : (a.whole == true) = false := by rw [hwh]; rfl
          clear hk1 hk2 hg hAr hqe HGo HST HSP HV hqbF hqbT hbX HEq v1 v2 v3
          generalize bya q = P at *
          rw [hwh] at g1
          go_wp2_with (first | (refine wpList_load_row rfl 74 _ rfl (w.heap.size + 1) rfl 74 (arV a.gen a.whole a.good v) (0, 0) _ HM1.out.1.cells Tryd.underlying74 rfl size74 ?_) | (refine wpList_store_row rfl 74 _ _ rfl w.heap.size (arV a.gen a.whole a.good v) rfl rfl 74 _ HM1.out.2.1 size74 rfl hone ?_))
          exact bodyPost_ret (v := .agg (arV a.gen a.whole a.good v)) (results_cell_row Tryd.results66 _ _ w.heap.size 74 _ _ _ rfl HEnd.out.1 Tryd.underlying74 rfl size74) rfl HEnd.out.2
      · have HEnd := hide (HST.out (by rw [hAr]; exact if_neg (fun h => by rw [hwh] at h; cases h.1)))
        clear hk1 hk2 hg hAr HGo HST HSP HV hqbF hqbT hbX HEq v1 v2 v3
        generalize bya q = P at *
        rw [hwh] at g1
        go_wp2_with (first | (refine wpList_load_row rfl 74 _ rfl (w.heap.size + 1) rfl 74 (arV a.gen a.whole a.good v) (0, 0) _ HM1.out.1.cells Tryd.underlying74 rfl size74 ?_) | (refine wpList_store_row rfl 74 _ _ rfl w.heap.size (arV a.gen a.whole a.good v) rfl rfl 74 _ HM1.out.2.1 size74 rfl hone ?_))
        exact bodyPost_ret (v := .agg (arV a.gen a.whole a.good v)) (results_cell_row Tryd.results66 _ _ w.heap.size 74 _ _ _ rfl HEnd.out.1 Tryd.underlying74 rfl size74) rfl HEnd.out.2
end Go.Proofs.YtmmflekajbeamaaDoor
