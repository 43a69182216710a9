/-
  Frames: a frame is taken (take).
  Frames: what an area's bytes tell (frame.Scan).
  The engine's book of a list (bookOf).
-/
import Derived.Test.YtmmflekajbeamaaGreatDoorF17
import Derived.Test.YtmmflekajbeamaaGreatDoorF18
namespace Go.Proofs.YtmmflekajbeamaaGreatDoor
open Go.RowKit

theorem arT_open {a : ArN} (h : a.gen = 0) (K : Nat) (q : List UInt8) : arT a K q = rOpen a K q := by unfold arT rOpen; rw [if_pos h]
theorem arT_entry {a : ArN} (h : a.gen ≠ 0) {K : Nat} (hK : K = 2) (q : List UInt8) : arT a K q = rEntry a q := by subst hK; unfold arT rEntry; rw [if_neg h, if_pos rfl]
theorem arT_whole {a : ArN} (h : a.gen ≠ 0) {K : Nat} (hK : K = 3) (q : List UInt8) : arT a K q = rWhole a q := by subst hK; unfold arT rWhole; rw [if_neg h, if_neg (by decide), if_pos rfl]
theorem arT_other {a : ArN} (h : a.gen ≠ 0) {K : Nat} (h2 : K ≠ 2) (h3 : K ≠ 3) (q : List UInt8) : arT a K q = none := by unfold arT; rw [if_neg h, if_neg h2, if_neg h3]
theorem TkPost.up {A : Nat} {a : ArN} {v : Value} {r : Option ArN} {w W1 : World} {e : Ending} {w' : World} (hA : A < w.heap.size) (hb : Below w.heap.size w W1) (h : TkPost A a v r W1 e w') : TkPost A a v r w e w' := by
  obtain ⟨⟨h1, h2⟩, h3⟩ := h
  have hz := hb.size
  refine ⟨⟨(hb.mono (Nat.le_of_lt hA)).trans h1, fun g hg hn ho => (h2 g (by omega) hn ho).trans (hb.block g hg)⟩, ?_⟩
  rcases h3 with ⟨a', v', x1, x2, x3, x4⟩ | x
  · refine .inl ⟨a', v', x1, x2, x3, fun g hg => ?_⟩
    rcases x4 g hg with h | h
    · exact .inl h
    · exact .inr (by omega)
  · exact .inr x
theorem TkPost.form {A : Nat} {a : ArN} {v : Value} {r : Option ArN} {w : World} {e : Ending} {w' : World} (h : TkPost A a v r w e w') : ∃ b, e = .returned (.bool b) := by
  obtain ⟨_, ⟨_, _, _, rfl, _⟩ | ⟨_, rfl, _⟩⟩ := h
  · exact ⟨_, rfl⟩
  · exact ⟨_, rfl⟩

set_option maxRecDepth 100000 in
set_option maxHeartbeats 4000000 in
theorem frTake_any (A : Nat) (a : ArN) (v : Value) (K : Nat) (q : List UInt8) (n : Int) (w : World) (h : ArAt A a v w) (ht : Tab w) (hq2 : q.length ≤ 200) (hal : a.list.length ≤ 2000000) (hgg : a.good = 0 ↔ a.gen = 0) :
    Calls Tryz.prog 188 #[.pointer (some ⟨A, 0, none⟩), .agg #[.int .i64 (K : Int), .string (bya q), .int .i64 n]] w (TkPost A a v (arT a K q) w) := by
  have hA := h.lt
  have hne : ¬ A = w.heap.size := by omega
  have g2 : w.cell? ⟨A, 2, none⟩ = some (.int .i64 (a.good : Int)) := h.cell 2
  obtain ⟨W1, hW1⟩ : ∃ W1, W1 = w.alloc (.cells #[.int .i64 (K : Int), .string (bya q), .int .i64 n] 236) := ⟨_, rfl⟩
  have b1 : Below w.heap.size w W1 := by rw [hW1]; exact (Below.refl _ _).alloc (Nat.le_refl _) _
  have a1 := h.above b1
  have HUp : Hid (∀ r e w', TkPost A a v r W1 e w' → TkPost A a v r w e w') := fun r e w' hp => hp.up hA b1
  have HW := hide hW1
  by_cases h0 : a.good = 0
  · have HC := hide (takeOpen_any A a v K q n W1 a1 (hgg.1 h0))
    rw [← arT_open (hgg.1 h0)] at HC
    rw [h0] at g2
    clear b1 a1 hW1
    generalize arT a K q = R at *
    generalize bya q = D at *
    go_enter Tryz.func188, Tryz.ntmps188
    go_wp2_with fail
    rw [← HW.out]
    refine (unhide HC).mono ?_
    intro e w' hp
    obtain ⟨b, rfl⟩ := hp.form
    have HP := hide (HUp.out _ _ _ hp)
    clear hp
    go_wp2_with fail
    go_ret
    exact HP.out
  have hg0 : a.gen ≠ 0 := fun e => h0 (hgg.2 e)
  have h0' : ((a.good : Int) == 0) = false := by rw [beq_eq_false_iff_ne]; omega
  by_cases h2 : K = 2
  · have HC := hide (takeEntry_any A a v K q n W1 a1 (ht.below ht.pos b1) hq2 hal)
    rw [← arT_entry hg0 h2] at HC
    have h2t : ((K : Int) == 2) = true := by rw [beq_iff_eq]; omega
    clear b1 a1 hW1 h2
    generalize arT a K q = R at *
    generalize bya q = D at *
    go_enter Tryz.func188, Tryz.ntmps188
    go_wp2_with fail
    rw [← HW.out]
    refine (unhide HC).mono ?_
    intro e w' hp
    obtain ⟨b, rfl⟩ := hp.form
    have HP := hide (HUp.out _ _ _ hp)
    clear hp
    go_wp2_with fail
    go_ret
    exact HP.out
  have h2' : ((K : Int) == 2) = false := by rw [beq_eq_false_iff_ne]; omega
  by_cases h3 : K = 3
  · have HC := hide (takeWhole_any A a v K q n W1 a1)
    rw [← arT_whole hg0 h3] at HC
    have h3t : ((K : Int) == 3) = true := by rw [beq_iff_eq]; omega
    clear b1 a1 hW1 h3 h2
    generalize arT a K q = R at *
    generalize bya q = D at *
    go_enter Tryz.func188, Tryz.ntmps188
    go_wp2_with fail
    rw [← HW.out]
    refine (unhide HC).mono ?_
    intro e w' hp
    obtain ⟨b, rfl⟩ := hp.form
    have HP := hide (HUp.out _ _ _ hp)
    clear hp
    go_wp2_with fail
    go_ret
    exact HP.out
  have h3' : ((K : Int) == 3) = false := by rw [beq_eq_false_iff_ne]; omega
  have HP : Hid (TkPost A a v (arT a K q) w (.returned (.bool false)) W1) := ⟨TkFr.of_above hA b1, .inr ⟨arT_other hg0 h2 h3 q, rfl, a1⟩⟩
  clear b1 a1 hW1 h2 h3
  generalize arT a K q = R at *
  generalize bya q = D at *
  go_enter Tryz.func188, Tryz.ntmps188
  go_wp2_with fail
  go_ret
  rw [← HW.out]
  exact HP.out
end Go.Proofs.YtmmflekajbeamaaGreatDoor

namespace Go.Proofs.YtmmflekajbeamaaGreatDoor
open Go.RowKit

theorem zero74 (w : World) : (zeroValue 175).run Tryz.prog w = .ok (.agg (arV 0 false 0 (.slice none 0 0))) w := by kernel_rfl
theorem size74 : (Tryz.prog.info? 175).map (·.size) = some 4 := by kernel_rfl
theorem arV_one (gen : Nat) (whole : Bool) (good : Nat) (v : Value) (hv : v.oneCell' = true) : (arV gen whole good v).all (·.oneCell') = true := by
  simp [arV, Value.oneCell']
  exact hv
theorem own_one {w : World} {B n : Nat} {v : Value} {xs : List Value} {e : TypeId} {k : Nat} (h : w.ownsRow B e k v n xs) : v.oneCell' = true := by
  obtain ⟨a, c, rfl⟩ := owns_len h
  rfl
theorem setRow_alloc_any (w : World) (c c' : Array Value) (t : TypeId) : (w.alloc (.cells c t)).setRow w.heap.size c' = w.alloc (.cells c' t) := setRow_alloc_at _ _ _ _ _ rfl
theorem wpList_storeFA {ops : Array Oper} {rest : List Oper} {o : Oper} {a : Act} {w : World} {Q : Exit → Act → World → Prop} (hgd : o.guard = none) (x y : Operand) (ho : o.op = .store 236 x y)
    (k : Int) (p : ByteArray) (n : Int) (hx : a.eval x = .pointer (some ⟨w.heap.size, 0, none⟩)) (hy : a.eval y = .agg (frV k p n))
    (h : wpList Tryz.prog ops Q rest (a.put o.dst undef) (w.alloc (.cells #[.int .i64 k, .string p, .int .i64 n] 236))) : wpList Tryz.prog ops Q (o :: rest) a (w.alloc (.cells (frV 0 (bya []) 0) 236)) := by
  refine wpList_storeF hgd x y ho w.heap.size k p n hx hy _ (_root_.Go.heap_alloc_new w _) rfl ?_
  rw [setRow_alloc_any]
  exact h
def goodOf (A : Nat) (w : World) : Nat := match w.cell? ⟨A, 2, none⟩ with | some v => (intOf v).toNat | none => 0
theorem ArAt.good {A : Nat} {a : ArN} {v : Value} {w : World} (h : ArAt A a v w) : goodOf A w = a.good := by
  unfold goodOf
  rw [show w.cell? ⟨A, 2, none⟩ = some (.int .i64 (a.good : Int)) from h.cell 2]
  simp [intOf]
theorem arT_grow {a a' : ArN} {k : Nat} {p : List UInt8} (h : arT a k p = some a') : a.list.length ≤ a'.list.length := by
  unfold arT at h
  split at h
  · split at h
    · cases h; exact Nat.le_refl _
    · cases h
  · split at h
    · split at h
      · cases h; simp
      · cases h
    · split at h
      · split at h
        · cases h; exact Nat.le_refl _
        · cases h
      · cases h
theorem scn_grow : ∀ (f : Nat) (a : ArN) (l : List UInt8), a.list.length ≤ (scn f a l).list.length := by
  intro f
  induction f with
  | zero => intro a l; exact Nat.le_refl _
  | succ f ih =>
    intro a l
    rw [scn]
    cases hf : frst l with
    | none => exact Nat.le_refl _
    | some x =>
      obtain ⟨k, p⟩ := x
      simp only
      cases ht : arT a k p with
      | none => exact Nat.le_refl _
      | some a' => exact Nat.le_trans (arT_grow ht) (ih a' _)
/-- Where a reading stands. -/
structure ScI (s : ByteArray) (a : ArN) : Prop where
  le : a.good ≤ s.size
  iff : a.good = 0 ↔ a.gen = 0
  few : a.list.length ≤ a.good
  fewS : a.list.length ≤ (scan (lst s)).list.length
  goes : scn (((lst s).drop a.good).length + 1) a ((lst s).drop a.good) = scan (lst s)
theorem ScI.zero (s : ByteArray) : ScI s ar0 := ⟨Nat.zero_le _, ⟨fun _ => rfl, fun _ => rfl⟩, Nat.le_refl _, Nat.zero_le _, rfl⟩
theorem ScI.stop {s : ByteArray} {a : ArN} (h : ScI s a) (hf : frst ((lst s).drop a.good) = none) : scan (lst s) = a := by rw [← h.goes, scn, hf]
theorem ScI.stop2 {s : ByteArray} {a : ArN} (h : ScI s a) {K : Nat} {q : List UInt8} (hf : frst ((lst s).drop a.good) = some (K, q)) (ht : arT a K q = none) : scan (lst s) = a := by
  rw [← h.goes, scn, hf]
  simp only
  rw [ht]
theorem ScI.step {s : ByteArray} {a a' : ArN} (h : ScI s a) {K : Nat} {q : List UInt8} (hf : frst ((lst s).drop a.good) = some (K, q)) (ht : arT a K q = some a') : ScI s a' ∧ a'.good = a.good + (q.length + 8) := by
  obtain ⟨g1, g2, g3⟩ := arT_good ht
  have hq := (frst_some hf).2.2.2.1
  rw [List.length_drop, lst_len] at hq
  have hle := h.le
  have hgo : scn (((lst s).drop a'.good).length + 1) a' ((lst s).drop a'.good) = scan (lst s) := by
    rw [← h.goes]
    conv => rhs; rw [scn, hf]
    simp only
    rw [ht]
    simp only
    rw [List.drop_drop, ← g1]
    exact (scn_more _ _ a' _ (Nat.lt_succ_self _) (by rw [List.length_drop, List.length_drop, lst_len]; omega)).symm
  exact ⟨⟨by omega, by omega, by have := h.few; omega, by rw [← hgo]; exact scn_grow _ _ _, hgo⟩, g1⟩
/-- What a scanning leaves. -/
def ScanPost (s : ByteArray) (w : World) (e' : Ending) (w' : World) : Prop :=
  Below w.heap.size w w' ∧ ∃ v, e' = .returned (.agg (arV (scan (lst s)).gen (scan (lst s)).whole (scan (lst s)).good v)) ∧ w'.ownsRow w.heap.size 127 2 v (scan (lst s)).list.length (knCs (scan (lst s)).list)
theorem own_base {w : World} {B B' n : Nat} {v : Value} {xs : List Value} {e : TypeId} {k : Nat} (h : w.ownsRow B e k v n xs) (hb : B' ≤ B) : w.ownsRow B' e k v n xs := by
  refine ⟨h.1, ?_⟩
  rcases h.2 with h2 | ⟨g, cap, cur, x1, x2, x3⟩
  · exact .inl h2
  · exact .inr ⟨g, cap, cur, x1, by omega, x3⟩
/-- The end: the area is handed out. -/
theorem scan_end {s : ByteArray} {w wr : World} {a : ArN} {v : Value} (hs : scan (lst s) = a) (ha : ArAt (w.heap.size + 1) a v wr) (hb : Below w.heap.size w wr) (c : Array Value) (hR : wr.heap[w.heap.size]? = some (.cells c 175 (0, 0))) :
    (wr.setRow w.heap.size (arV a.gen a.whole a.good v)).heap[w.heap.size]? = some (.cells (arV a.gen a.whole a.good v) 175 (0, 0)) ∧ ScanPost s w (.returned (.agg (arV a.gen a.whole a.good v))) (wr.setRow w.heap.size (arV a.gen a.whole a.good v)) := by
  refine ⟨setRow_heap wr _ _ _ _ (0, 0) hR, below_setRow hb (Nat.le_refl _) _, v, by rw [hs], ?_⟩
  rw [hs]
  refine own_base (B := w.heap.size + 1 + 1) (ownsRow_keep ha.list (fun g hg => setRow_other _ _ _ _ (fun e => ?_))) (by omega)
  have := (row_lt ha.list g hg).1
  omega

set_option maxRecDepth 100000 in
set_option maxHeartbeats 4000000 in
theorem frScan_any (s : ByteArray) (w : World) (ht : Tab w) (hs : s.size ≤ 4611686018427387904) (hsl : (scan (lst s)).list.length ≤ 1048576) :
    Calls Tryz.prog 150 #[.string s] w (ScanPost s w) := by
  have HSl := hide hsl
  clear hsl
  have zz := zero74
  have zf := zero149
  obtain ⟨W0, hW0⟩ : ∃ W0, W0 = (w.alloc (.cells (arV 0 false 0 (.slice none 0 0)) 175)).alloc (.cells (arV 0 false 0 (.slice none 0 0)) 175) := ⟨_, rfl⟩
  have HW0 := hide hW0
  have hb0 : Below w.heap.size w W0 := by rw [hW0]; exact ((Below.refl _ _).alloc (Nat.le_refl _) _).alloc (by rw [size_alloc1]; omega) _
  have r0 : W0.heap[w.heap.size]? = some (.cells (arV 0 false 0 (.slice none 0 0)) 175 (0, 0)) := by rw [hW0, Below.heap_alloc _ _ _ (by rw [size_alloc1]; omega), _root_.Go.heap_alloc_new]
  have a0 : ArAt (w.heap.size + 1) ar0 (.slice none 0 0) W0 := by
    refine ⟨?_, World.ownsRow_nil _ _ _ _⟩
    rw [hW0]
    have := _root_.Go.heap_alloc_new (w.alloc (.cells (arV 0 false 0 (.slice none 0 0)) 175)) (.cells (arV 0 false 0 (.slice none 0 0)) 175)
    rw [size_alloc1] at this
    exact this
  have HT := hide (fun w' (hb : Below w.heap.size w w') => ht.below ht.pos hb)
  have H0 : Hid (Below w.heap.size w W0 ∧ W0.heap[w.heap.size]? = some (.cells (arV 0 false 0 (.slice none 0 0)) 175 (0, 0)) ∧ ArAt (w.heap.size + 1) ar0 (.slice none 0 0) W0) := ⟨hb0, r0, a0⟩
  clear hb0 r0 a0 hW0 ht
  go_enter Tryz.func150, Tryz.ntmps150
  go_wp2_with fail
  rw [← HW0.out]
  go_loopw [5] (fun _ wr => ∃ (a : ArN) (v : Value), Hid (ScI s a) ∧ Hid (ArAt (w.heap.size + 1) a v wr ∧ wr.heap[w.heap.size]? = some (.cells (arV 0 false 0 (.slice none 0 0)) 175 (0, 0)) ∧ Below w.heap.size w wr)) (fun _ wr => s.size - goodOf (w.heap.size + 1) wr)
  case atStart => exact ⟨ar0, .slice none 0 0, ScI.zero s, H0.out.2.2, H0.out.2.1, H0.out.1⟩
  case round =>
    obtain ⟨a, v, HI, HM⟩ := hrel
    have hA := HM.out.1.lt
    have c2 : wr.cell? ⟨w.heap.size + 1, 2, none⟩ = some (.int .i64 (a.good : Int)) := HM.out.1.cell 2
    have hgl : (a.good : Int) ≤ (s.size : Int) := by have := HI.out.le; omega
    have hg0 : (0 : Int) ≤ (a.good : Int) := by omega
    have HF := hide (frFirst_any (s.extract a.good s.size) wr (by rw [ByteArray.size_extract]; omega))
    have HLs : Hid (lst (s.extract a.good s.size) = (lst s).drop a.good) := by
      unfold Hid
      rw [lst_ext, List.take_of_length_le (by rw [List.length_drop, lst_len]; omega)]
    go_wp2_with fail
    refine (unhide HF).mono ?_
    rintro e w1 ⟨hb1, hf⟩
    unfold FstF at hf
    rw [HLs.out] at hf
    have hz1 := hb1.size
    rcases hf with ⟨hn, rfl⟩ | ⟨K, q, hk, rfl⟩
    · have HSc := hide (HI.out.stop hn)
      have HM1 : Hid (ArAt (w.heap.size + 1) a v (w1.alloc (.cells #[.int .i64 0, .string (bya []), .int .i64 0] 236)) ∧ (w1.alloc (.cells #[.int .i64 0, .string (bya []), .int .i64 0] 236)).heap[w.heap.size]? = some (.cells (arV 0 false 0 (.slice none 0 0)) 175 (0, 0)) ∧ Below w.heap.size w (w1.alloc (.cells #[.int .i64 0, .string (bya []), .int .i64 0] 236))) := by
        have hlw : w.heap.size < wr.heap.size := by omega
        refine ⟨(HM.out.1.above hb1).alloc _, ((Below.heap_alloc w1 _ _ (by omega)).trans (hb1.block _ hlw)).trans HM.out.2.1, (HM.out.2.2.trans (hb1.mono (by omega))).alloc (by omega) _⟩
      have HEnd := hide (scan_end HSc.out HM1.out.1 HM1.out.2.2 _ HM1.out.2.1)
      have hone := arV_one a.gen a.whole a.good v (own_one HM.out.1.list)
      clear hb1 hn HF
      go_wp2_with (first | (refine wpList_storeFA rfl _ _ rfl 0 (bya []) 0 rfl rfl ?_) | (refine wpList_load_row rfl 175 _ rfl (w.heap.size + 1) rfl 175 (arV a.gen a.whole a.good v) (0, 0) _ HM1.out.1.cells Tryz.underlying175 rfl size74 ?_) | (refine wpList_store_row rfl 175 _ _ rfl w.heap.size (arV a.gen a.whole a.good v) rfl rfl 175 _ HM1.out.2.1 size74 rfl hone ?_))
      exact bodyPost_ret (v := .agg (arV a.gen a.whole a.good v)) (results_cell_row Tryz.results150 _ _ w.heap.size 175 _ _ _ rfl HEnd.out.1 Tryz.underlying175 rfl size74) rfl HEnd.out.2
    · have hq200 := (frst_some hk).2.2.1
      have hqle := (frst_some hk).2.2.2.1
      rw [List.length_drop, lst_len] at hqle
      have hle0 := HI.out.le
      obtain ⟨n, hn⟩ : ∃ n : Int, n = ((q.length + 8 : Nat) : Int) := ⟨_, rfl⟩
      rw [← hn]
      have hlw : w.heap.size + 1 < wr.heap.size := hA
      obtain ⟨W2, hW2⟩ : ∃ W2, W2 = w1.alloc (.cells #[.int .i64 (K : Int), .string (bya q), .int .i64 n] 236) := ⟨_, rfl⟩
      have b2 : Below wr.heap.size wr W2 := by rw [hW2]; exact hb1.alloc (by omega) _
      have a2 := HM.out.1.above b2
      have B2 : Below w.heap.size w W2 := HM.out.2.2.trans (b2.mono (by omega))
      have R2 : W2.heap[w.heap.size]? = some (.cells (arV 0 false 0 (.slice none 0 0)) 175 (0, 0)) := (b2.block _ (by omega)).trans HM.out.2.1
      have F2 : W2.heap[w1.heap.size]? = some (.cells #[.int .i64 (K : Int), .string (bya q), .int .i64 n] 236 (0, 0)) := by rw [hW2, _root_.Go.heap_alloc_new]
      have hz2 : w1.heap.size < W2.heap.size := (Array.getElem?_eq_some_iff.1 F2).1
      have HC := hide (frTake_any (w.heap.size + 1) a v K q n W2 a2 (HT.out _ B2) hq200 (by have := HI.out.fewS; have := HSl.out; omega) HI.out.iff)
      have hvl : ∀ g, v.ownBlock = some g → g < wr.heap.size := fun g hg => (row_lt HM.out.1.list g hg).2
      have HVl := hide hvl
      have HW2 := hide hW2; have HB2 := hide B2; have HR2 := hide R2; have HF2 := hide F2; have HK := hide hk; have HNn := hide hn
      clear hb1 HF hW2 b2 a2 B2 R2 F2 hk hvl hn
      generalize bya q = D at *
      go_wp2_with (refine wpList_storeFA rfl _ _ rfl K D n rfl rfl ?_)
      rw [← HW2.out]
      refine (unhide HC).mono ?_
      rintro e w3 ⟨⟨hb3, ho3⟩, ⟨a', v', hr, rfl, ha3, hv3⟩ | ⟨hr, rfl, ha3⟩⟩
      · obtain ⟨hst, hgd⟩ := HI.out.step HK.out hr
        have R3 : w3.heap[w.heap.size]? = some (.cells (arV 0 false 0 (.slice none 0 0)) 175 (0, 0)) := (ho3 _ (by omega) (by omega) (fun e => by have := (row_lt HM.out.1.list _ e).1; omega)).trans HR2.out
        have F3 : w3.heap[w1.heap.size]? = some (.cells #[.int .i64 (K : Int), .string D, .int .i64 n] 236 (0, 0)) := (ho3 _ hz2 (by omega) (fun e => by have := HVl.out _ e; omega)).trans HF2.out
        have k2 : w3.cell? ⟨w1.heap.size, 2, none⟩ = some (.int .i64 n) := cell_row F3 2
        have B3 : Below w.heap.size w w3 := HB2.out.trans (hb3.mono (by omega))
        have g2 : w3.cell? ⟨w.heap.size + 1, 2, none⟩ = some (.int .i64 (a.good : Int)) := ha3.cell 2
        have f2 := ha3.frozen 2
        have hn' : n = (q.length : Int) + 8 := by rw [HNn.out]; omega
        have hsm : (a.good : Int) + n = (a'.good : Int) := by rw [hn', hgd]; omega
        have hnb : (0 : Int) ≤ n ∧ n ≤ 208 := by omega
        have ha4 : ArAt (w.heap.size + 1) a' v' (w3.setCell ⟨w.heap.size + 1, 2, none⟩ (.int .i64 (a'.good : Int))) := ha3.turn (a' := a') 2 _ rfl rfl
        have HA4 := hide ha4
        have HR4 : Hid ((w3.setCell ⟨w.heap.size + 1, 2, none⟩ (.int .i64 (a'.good : Int))).heap[w.heap.size]? = some (.cells (arV 0 false 0 (.slice none 0 0)) 175 (0, 0))) := (heap_set_other _ _ (by omega)).trans R3
        have HB4 : Hid (Below w.heap.size w (w3.setCell ⟨w.heap.size + 1, 2, none⟩ (.int .i64 (a'.good : Int)))) := B3.setCell (p := ⟨w.heap.size + 1, 2, none⟩) (Nat.le_succ _) _
        have HSt := hide hst
        have HGd := hide hgd
        have HMe : Hid (s.size - goodOf (w.heap.size + 1) (w3.setCell ⟨w.heap.size + 1, 2, none⟩ (.int .i64 (a'.good : Int))) < s.size - goodOf (w.heap.size + 1) wr) := by
          unfold Hid
          rw [ha4.good, HM.out.1.good]
          have := hst.le
          omega
        clear hb3 ho3 ha3 hv3 R3 F3 B3 ha4 hst hgd hr HC HK hn'
        go_wp2_with fail
        exact ⟨⟨a', v', HSt.out, HA4.out, HR4.out, HB4.out⟩, HMe.out⟩
      · have HSc := hide (HI.out.stop2 HK.out hr)
        have R3 : w3.heap[w.heap.size]? = some (.cells (arV 0 false 0 (.slice none 0 0)) 175 (0, 0)) := (ho3 _ (by omega) (by omega) (fun e => by have := (row_lt HM.out.1.list _ e).1; omega)).trans HR2.out
        have B3 : Below w.heap.size w w3 := HB2.out.trans (hb3.mono (by omega))
        have HEnd := hide (scan_end HSc.out ha3 B3 _ R3)
        have hone := arV_one a.gen a.whole a.good v (own_one HM.out.1.list)
        have HA3 := hide ha3; have HR3 := hide R3
        clear hb3 ho3 ha3 R3 B3 hr HC HK
        go_wp2_with (first | (refine wpList_load_row rfl 175 _ rfl (w.heap.size + 1) rfl 175 (arV a.gen a.whole a.good v) (0, 0) _ HA3.out.cells Tryz.underlying175 rfl size74 ?_) | (refine wpList_store_row rfl 175 _ _ rfl w.heap.size (arV a.gen a.whole a.good v) rfl rfl 175 _ HR3.out size74 rfl hone ?_))
        exact bodyPost_ret (v := .agg (arV a.gen a.whole a.good v)) (results_cell_row Tryz.results150 _ _ w.heap.size 175 _ _ _ rfl HEnd.out.1 Tryz.underlying175 rfl size74) rfl HEnd.out.2
end Go.Proofs.YtmmflekajbeamaaGreatDoor

namespace Go.Proofs.YtmmflekajbeamaaGreatDoor
open Go.RowKit Go.Maps Go.WideMaps

theorem bklay_any (B N o : Nat) (l : List KwN) (mv v : Value) (ws : List Nat) (p : ByteArray) (w : World) (h : BoAt B N o l mv v w) (hBN : B ≤ N) (hf : ∀ j, w.frozen? ⟨N, j, none⟩ = false) (hw : wOK ws) (hl : l.length ≤ 1000000000000) :
    Calls Tryz.prog 190 #[.pointer (some ⟨N, o, none⟩), .agg (S (wdZ ws)), .string p] w (LayPost B N o (layB l ws (lst p)) mv v w) := by
  unfold layB
  cases hq : (bkW l).findIdx? (· == ws) with
  | some n =>
    obtain ⟨h1, h2, _⟩ := List.findIdx?_eq_some_iff_getElem.1 hq
    have hn : n < l.length := by unfold bkW at h1; simpa using h1
    have he : l[n].1 = ws := by
      have : (bkW l)[n] = l[n].1 := by simp [bkW]
      rw [this] at h2
      simpa using h2
    have hk : l[n]? = some l[n] := List.getElem?_eq_getElem hn
    have key := lay_yes B N o l mv v n l[n] p w h (Nat.le_trans hBN (Nat.le_of_lt h.lt)) hk hl
    rw [he] at key
    exact key.mono fun e' w' q => ⟨q.1, mv, v, q.2.1, q.2.2, fun g hg => .inl hg⟩
  | none =>
    have hn : ws ∉ bkW l := fun hm => by
      have := List.findIdx?_eq_none_iff.1 hq ws hm
      simp at this
    rcases h.mp with ⟨rfl, rfl⟩ | ⟨b, D, rfl, _⟩
    · exact lay_nil B N o v ws p w h hBN hf hw
    · exact lay_some B N o l b v ws p w h hBN hf hw hn hl
/-- A book's value, without the cells where it lies. -/
structure BoV (B : Nat) (l : List KwN) (mv v : Value) (w : World) : Prop where
  ls : w.ownsRow B 127 2 v l.length (bkCs l)
  ok : ∀ k ∈ l, wOK k.1
  one : ∀ i j : Nat, i < l.length → (bkW l)[i]? = (bkW l)[j]? → i = j
  mp : (mv = .map none ∧ l = []) ∨ ∃ b D, mv = .map (some b) ∧ B ≤ b ∧ w.ownsMap Tryz.prog 187 (plainElem Tryz.prog 3) b l.length D ∧ BoOK D (bkW l)
theorem BoAt.val {B N o : Nat} {l : List KwN} {mv v : Value} {w : World} (h : BoAt B N o l mv v w) : BoV B l mv v w := ⟨h.ls, h.ok, h.one, h.mp⟩
theorem BoV.at' {B N o : Nat} {l : List KwN} {mv v : Value} {w : World} (h : BoV B l mv v w) (c0 : w.cell? ⟨N, o, none⟩ = some mv) (c1 : w.cell? ⟨N, o + 1, none⟩ = some v) (nv : v.ownBlock ≠ some N) : BoAt B N o l mv v w := ⟨c0, c1, nv, h.ls, h.ok, h.one, h.mp⟩
theorem BoV.has {B : Nat} {l : List KwN} {mv v : Value} {w : World} (h : BoV B l mv v w) {g : Nat} (hg : bkHas mv v g) : B ≤ g ∧ g < w.heap.size := by
  rcases hg with hg | hg
  · rcases h.mp with ⟨q, _⟩ | ⟨b, D, q, hb, hm, _⟩
    · rw [q] at hg; cases hg
    · rw [q] at hg
      cases hg
      exact ⟨hb, hm.lt⟩
  · exact row_lt h.ls g hg
theorem BoV.kept {B : Nat} {l : List KwN} {mv v : Value} {w w' : World} (h : BoV B l mv v w) (hk : ∀ g, bkHas mv v g → w'.heap[g]? = w.heap[g]?) : BoV B l mv v w' := by
  refine ⟨ownsRow_keep h.ls (fun g hg => hk g (.inr hg)), h.ok, h.one, ?_⟩
  rcases h.mp with q | ⟨b, D, q, hB, hm, ht⟩
  · exact .inl q
  · exact .inr ⟨b, D, q, hB, map_keep hm (hk b (.inl q)), ht⟩
theorem BoV.base {B B' : Nat} {l : List KwN} {mv v : Value} {w : World} (h : BoV B l mv v w) (hb : B' ≤ B) : BoV B' l mv v w := by
  refine ⟨own_base h.ls hb, h.ok, h.one, ?_⟩
  rcases h.mp with q | ⟨b, D, q, hB, hm, ht⟩
  · exact .inl q
  · exact .inr ⟨b, D, q, Nat.le_trans hb hB, hm, ht⟩
theorem BoV.map {B : Nat} {l : List KwN} {mv v : Value} {w : World} (h : BoV B l mv v w) : ∃ ob, mv = .map ob := by
  rcases h.mp with ⟨rfl, _⟩ | ⟨b, D, rfl, _⟩
  · exact ⟨_, rfl⟩
  · exact ⟨_, rfl⟩
theorem BoV.none (B : Nat) (w : World) : BoV B [] (.map none) (.slice none 0 0) w := ⟨World.ownsRow_nil _ _ _ _, (fun k h => by cases h), (fun i j h => by cases h), .inl ⟨rfl, rfl⟩⟩
/-- The words that a text tells. -/
def rdW (t : List UInt8) : List Nat := blkL (bya t) (t.length / 4)
def bkAdd (b : List KwN) (x : List UInt8 × List UInt8) : List KwN := if blkB (bya x.1) = true then layB b (rdW x.1) x.2 else b
def bookL (l : List (List UInt8 × List UInt8)) : List KwN := l.foldl bkAdd []
theorem bookL_take {l : List (List UInt8 × List UInt8)} {k : Nat} {x : List UInt8 × List UInt8} (h : l[k]? = some x) : bookL (l.take (k + 1)) = bkAdd (bookL (l.take k)) x := by
  unfold bookL
  rw [take_snoc' h, List.foldl_append]
  rfl
theorem layB_len (l : List KwN) (ws : List Nat) (p : List UInt8) : (layB l ws p).length ≤ l.length + 1 := by
  unfold layB
  split
  · rw [List.length_set]; omega
  · rw [List.length_append]; exact Nat.le_refl _
theorem bkAdd_len (l : List KwN) (x : List UInt8 × List UInt8) : (bkAdd l x).length ≤ l.length + 1 := by
  unfold bkAdd
  split
  · exact layB_len _ _ _
  · omega
theorem foldB_len : ∀ (l : List (List UInt8 × List UInt8)) (b : List KwN), (l.foldl bkAdd b).length ≤ b.length + l.length
  | [], b => by simp
  | x :: l, b => by
    have h1 := foldB_len l (bkAdd b x)
    have h2 := bkAdd_len b x
    rw [List.foldl_cons, List.length_cons]
    omega
theorem bookL_len (l : List (List UInt8 × List UInt8)) : (bookL l).length ≤ l.length := by have := foldB_len l []; simpa [bookL] using this
theorem sizeBk : (Tryz.prog.info? 131).map (·.size) = some 2 := by kernel_rfl
/-- What the making of a book leaves. -/
def BkPost (l : List KwN) (w : World) (e' : Ending) (w' : World) : Prop := ∃ mv v, e' = .returned (.agg #[mv, v]) ∧ BoV w.heap.size l mv v w' ∧ Below w.heap.size w w'
set_option maxRecDepth 100000 in
set_option maxHeartbeats 4000000 in
theorem bookOf_any (B0 : Nat) (v0 : Value) (l : List (List UInt8 × List UInt8)) (w : World) (ht : Tab w) (h : w.ownsRow B0 127 2 v0 l.length (knCs l)) (hx : ∀ x ∈ l, x.1.length ≤ 1000000) (hl : l.length ≤ 1000000000000) :
    Calls Tryz.prog 152 #[v0] w (BkPost (bookL l) w) := by
  obtain ⟨W0, hW0⟩ : ∃ W0, W0 = (w.alloc (.cells #[.map none, .slice none 0 0] 131)).alloc (.cells #[.map none, .slice none 0 0] 131) := ⟨_, rfl⟩
  have hs1 : (w.alloc (.cells #[.map none, .slice none 0 0] 131)).heap.size = w.heap.size + 1 := size_alloc1 _ _
  have hb0 : Below w.heap.size w W0 := by rw [hW0]; exact ((Below.refl _ _).alloc (Nat.le_refl _) _).alloc (by rw [size_alloc1]; omega) _
  have r0 : W0.heap[w.heap.size]? = some (.cells #[.map none, .slice none 0 0] 131 (0, 0)) := by rw [hW0, Below.heap_alloc _ _ _ (by rw [size_alloc1]; omega), _root_.Go.heap_alloc_new]
  have r1 : W0.heap[w.heap.size + 1]? = some (.cells #[.map none, .slice none 0 0] 131 (0, 0)) := by rw [hW0, ← hs1, _root_.Go.heap_alloc_new]
  have a0 : BoAt (w.heap.size + 1) (w.heap.size + 1) 0 [] (.map none) (.slice none 0 0) W0 := (BoV.none _ _).at' (by simp [World.cell?, r1]) (by simp [World.cell?, r1]) (fun e => by cases e)
  have f0 : ∀ j, W0.frozen? ⟨w.heap.size + 1, j, none⟩ = false := fun j => by simp [World.frozen?, r1]
  have HW0 := hide hW0
  have HT := hide (fun w' (hb : Below w.heap.size w w') => ht.below ht.pos hb)
  have H0 : Hid (BoAt (w.heap.size + 1) (w.heap.size + 1) 0 (bookL (l.take 0)) (.map none) (.slice none 0 0) W0 ∧ (∀ j, W0.frozen? ⟨w.heap.size + 1, j, none⟩ = false) ∧ W0.heap[w.heap.size]? = some (.cells #[.map none, .slice none 0 0] 131 (0, 0)) ∧ Below w.heap.size w W0) := ⟨a0, f0, r0, hb0⟩
  have HO := hide h; have HX := hide hx; have HL := hide hl
  obtain ⟨va, vc, hv⟩ := owns_len h
  subst hv
  clear hb0 r0 r1 a0 f0 hW0 ht h hx hs1
  go_enter Tryz.func152, Tryz.ntmps152
  go_wp2_with fail
  rw [← HW0.out]
  go_loopw [10] (fun i wr => ∃ (k : Nat) (mv u : Value), k ≤ l.length ∧ i = .int .i64 k ∧ Hid (BoAt (w.heap.size + 1) (w.heap.size + 1) 0 (bookL (l.take k)) mv u wr ∧ (∀ j, wr.frozen? ⟨w.heap.size + 1, j, none⟩ = false) ∧ wr.heap[w.heap.size]? = some (.cells #[.map none, .slice none 0 0] 131 (0, 0)) ∧ Below w.heap.size w wr)) (fun i _ => l.length - (intOf i).toNat)
  case atStart => exact ⟨0, .map none, .slice none 0 0, Nat.zero_le _, rfl, H0.out⟩
  case round =>
    obtain ⟨k, mv, u, hk, rfl, HM⟩ := hrel
    by_cases hlt : k < l.length
    · have hlt' : (k : Int) < (l.length : Int) := by omega
      obtain ⟨g, c, hv, _, hgl⟩ := HO.out.form (by omega)
      simp only [Value.slice.injEq] at hv
      obtain ⟨rfl, _, rfl⟩ := hv
      obtain ⟨d0, d1⟩ := kn_cells HO.out k l[k] (List.getElem?_eq_getElem hlt)
      have hbl := HM.out.2.2.2
      replace d0 := (World.cell?_of_block (hbl.block g hgl)).trans d0
      replace d1 := (World.cell?_of_block (hbl.block g hgl)).trans d1
      have hgz : g < wr.heap.size := Nat.lt_of_lt_of_le hgl hbl.size
      have HK := hide (bookL_take (List.getElem?_eq_getElem hlt))
      have hxl := HX.out l[k] (List.getElem_mem hlt)
      generalize l[k] = x at *
      have hz : (bya x.1).size = x.1.length := bya_size _
      have HRd := hide (fun w' (hb : Below w.heap.size w w') => blkRead_any (bya x.1) w' (HT.out w' hb) (by rw [hz]; unfold maxLen; omega))
      have HBl := hide hbl
      have HZ := hide hz
      clear hbl hz hxl
      go_wp2_with fail
      refine (unhide HRd _ (HBl.out.alloc HBl.out.size _)).mono ?_
      rintro e w1 ⟨hb1, hres⟩
      have hz1 : wr.heap.size + 1 ≤ w1.heap.size := by have := hb1.size; rw [size_alloc1] at this; exact this
      have b1 := hb1.block wr.heap.size (by rw [size_alloc1]; exact Nat.lt_succ_self _)
      rw [_root_.Go.heap_alloc_new] at b1
      have q1 : w1.cell? ⟨wr.heap.size, 1, none⟩ = some (.string (bya x.2)) := by simp [World.cell?, b1]
      have HB1 : Hid (Below wr.heap.size wr w1) := ((Below.refl _ _).alloc (Nat.le_refl _) _).trans (hb1.mono (by rw [size_alloc1]; exact Nat.le_succ _))
      clear hb1 b1
      rcases hres with ⟨hok, rfl⟩ | ⟨hno, rfl⟩
      · have h8 : wOK (rdW x.1) := ⟨by unfold rdW; rw [blkL_len, ← HZ.out]; have := hok.2.1; omega, blkL_bd _ _⟩
        have HA : Hid (bkAdd (bookL (l.take k)) x = layB (bookL (l.take k)) (rdW x.1) x.2) := if_pos ((blkB_iff _).2 hok)
        have hrd : blkL (bya x.1) ((bya x.1).size / 4) = rdW x.1 := by rw [HZ.out]; rfl
        rw [hrd]
        have hzl := wdZ_len h8.1
        have HBo : Hid (BoAt (w.heap.size + 1) (w.heap.size + 1) 0 (bookL (l.take k)) mv u (w1.alloc (.cells (S (wdZ (rdW x.1))) 187))) := HM.out.1.up (HB1.out.alloc HB1.out.size _)
        have HFz : Hid (∀ j, (w1.alloc (.cells (S (wdZ (rdW x.1))) 187)).frozen? ⟨w.heap.size + 1, j, none⟩ = false) := fun j => (World.frozen?_of_block ((HB1.out.alloc HB1.out.size _).block _ HM.out.1.lt)).trans (HM.out.2.1 j)
        have HLy := hide (bklay_any (w.heap.size + 1) (w.heap.size + 1) 0 (bookL (l.take k)) mv u (rdW x.1) (bya x.2) _ HBo.out (Nat.le_refl _) HFz.out h8 (by have h1 := bookL_len (l.take k); rw [List.length_take] at h1; have := HL.out; omega))
        have hrow : RowI (w1.alloc (.cells (S (wdZ (rdW x.1))) 187)) w1.heap.size 187 (wdZ (rdW x.1)) := _root_.Go.heap_alloc_new w1 _
        have rI := hrow.isRow 9 hzl
        have rD := hrow.rowD
        replace q1 := (World.cell?_of_block (a := ⟨wr.heap.size, 1, none⟩) (Below.heap_alloc w1 (.cells (S (wdZ (rdW x.1))) 187) wr.heap.size hz1)).trans q1
        clear hok hrd h8 hrow
        go_wp2_with (first
          | refine wpList_storeR size9 rfl _ _ rfl w1.heap.size rfl (wdZ (rdW x.1)) rfl hzl (by rw [isRowB_alloc_at _ _ _ _ _ rfl]; rfl) _ (setRow_alloc_at _ _ _ _ _ rfl) ?_
          | refine wpList_loadR rfl Tryz.underlying187 size9 rfl _ rfl w1.heap.size rfl rI (S (wdZ (rdW x.1))) rD ?_)
        refine (unhide HLy).mono ?_
        rintro e w3 ⟨rfl, mv', v', hbo, hfr, _⟩
        have HBo3 := hide hbo
        have hb3 : Below wr.heap.size wr (w1.alloc (.cells (S (wdZ (rdW x.1))) 187)) := HB1.out.alloc HB1.out.size _
        have HB3 : Hid (Below w.heap.size w w3) := (HBl.out.trans (hb3.mono HBl.out.size)).trans (hfr.below.mono (Nat.le_succ _))
        have HF3 : Hid (∀ j, w3.frozen? ⟨w.heap.size + 1, j, none⟩ = false) := fun j => (hfr.fz j).trans (HFz.out j)
        have hwz : w.heap.size < wr.heap.size := Nat.lt_of_succ_lt HM.out.1.lt
        have HR3 : Hid (w3.heap[w.heap.size]? = some (.cells #[.map none, .slice none 0 0] 131 (0, 0))) := (hfr.below.block _ (Nat.lt_succ_self _)).trans ((hb3.block _ hwz).trans HM.out.2.2.1)
        clear hbo hfr hb3 HLy
        go_wp2_with fail
        refine ⟨⟨k + 1, mv', v', hlt, by go_num, ?_⟩, by simp [intOf]; omega⟩
        rw [HK.out, HA.out]
        have hbo := HBo3.out
        rw [lst_bya] at hbo
        exact ⟨hbo, HF3.out, HR3.out, HB3.out⟩
      · have HA : Hid (bkAdd (bookL (l.take k)) x = bookL (l.take k)) := if_neg (fun q => hno ((blkB_iff _).1 q))
        have hzl : (wdZ []).length = 9 := rfl
        have hb3 : Below wr.heap.size wr (w1.alloc (.cells (S (wdZ [])) 187)) := HB1.out.alloc HB1.out.size _
        have HE : Hid (BoAt (w.heap.size + 1) (w.heap.size + 1) 0 (bookL (l.take k)) mv u (w1.alloc (.cells (S (wdZ [])) 187)) ∧ (∀ j, (w1.alloc (.cells (S (wdZ [])) 187)).frozen? ⟨w.heap.size + 1, j, none⟩ = false) ∧ (w1.alloc (.cells (S (wdZ [])) 187)).heap[w.heap.size]? = some (.cells #[.map none, .slice none 0 0] 131 (0, 0)) ∧ Below w.heap.size w (w1.alloc (.cells (S (wdZ [])) 187))) := ⟨HM.out.1.up hb3, fun j => (World.frozen?_of_block (hb3.block _ HM.out.1.lt)).trans (HM.out.2.1 j), (hb3.block _ (Nat.lt_of_succ_lt HM.out.1.lt)).trans HM.out.2.2.1, HBl.out.trans (hb3.mono HBl.out.size)⟩
        clear hno hb3
        go_wp2_with (refine wpList_storeR size9 rfl _ _ rfl w1.heap.size rfl (wdZ []) rfl hzl (by rw [isRowB_alloc_at _ _ _ _ _ rfl]; rfl) _ (setRow_alloc_at _ _ _ _ _ rfl) ?_)
        refine ⟨⟨k + 1, mv, u, hlt, by go_num, ?_⟩, by simp [intOf]; omega⟩
        rw [HK.out, HA.out]
        exact HE.out
    · have hlt' : ¬ (k : Int) < (l.length : Int) := by omega
      obtain rfl : k = l.length := by omega
      rw [List.take_length] at HM
      obtain ⟨ob, rfl⟩ := HM.out.1.val.map
      obtain ⟨ua, uc, rfl⟩ := owns_len HM.out.1.ls
      generalize hmv : Value.map ob = mv at HM
      generalize huv : Value.slice ua (bookL l).length uc = u at HM
      have c0 := HM.out.1.c0; have c1 := HM.out.1.c1
      have r0 := HM.out.2.2.1
      have s0 : wr.cell? ⟨w.heap.size, 0, none⟩ = some (.map none) := by simp [World.cell?, r0]
      have s1 : wr.cell? ⟨w.heap.size, 1, none⟩ = some (.slice none 0 0) := by simp [World.cell?, r0]
      have f0 : ∀ j, wr.frozen? ⟨w.heap.size, j, none⟩ = false := fun j => by simp [World.frozen?, r0]
      have g0 := f0 0; have g1 := f0 1
      have hNe : ∀ g, bkHas mv u g → g ≠ w.heap.size := fun g q e => by have := (HM.out.1.has q).1; omega
      have HEnd : Hid (∀ Wf, Wf = (wr.setCell ⟨w.heap.size, 0, none⟩ mv).setCell ⟨w.heap.size, 1, none⟩ u → Wf.heap[w.heap.size]? = some (.cells #[mv, u] 131 (0, 0)) ∧ BkPost (bookL l) w (.returned (.agg #[mv, u])) Wf) := fun Wf e => by
        refine ⟨by rw [e]; simp [World.setCell, Array.getElem?_modify, r0], mv, u, rfl, ?_, ?_⟩
        · refine (HM.out.1.val.base (B' := w.heap.size) (Nat.le_succ _)).kept (fun g q => ?_)
          rw [e]
          exact (set_other (hNe g q)).trans (set_other (hNe g q))
        · rw [e]
          exact (HM.out.2.2.2.setCell (p := ⟨w.heap.size, 0, none⟩) (Nat.le_refl _) _).setCell (p := ⟨w.heap.size, 1, none⟩) (Nat.le_refl _) _
      clear f0 r0 hNe
      subst hmv huv
      go_wp2_with fail
      exact bodyPost_ret (v := .agg #[.map ob, .slice ua (bookL l).length uc]) (results_cell_row Tryz.results152 _ _ w.heap.size 131 _ _ _ rfl (HEnd.out _ rfl).1 Tryz.underlying131 rfl sizeBk) rfl (HEnd.out _ rfl).2
end Go.Proofs.YtmmflekajbeamaaGreatDoor
