/-
  THE PROGRAM's Assemble: what it gives, for every text.
  Lists that the caller writes full of a mark and appends marks to: whatever they share, all of them read marks alone.
-/
import Derived.Test.YtmmflekajbeamaaDoorG24
import Derived.Test.YtmmflekajbeamaaDoorG27
namespace Go.Proofs.YtmmflekajbeamaaDoor
open Go.RowKit Go.Maps Go.WideMaps

/-- The words, in new memory of their own, or the fault's place and number. -/
def AmPost (w : World) (r : List Int ⊕ (Int × Int × Int)) (e' : Ending) (w' : World) : Prop :=
  Below w.heap.size w w' ∧ ((∃ ws v, r = .inl ws ∧ w'.ownsRow w.heap.size 3 1 v ws.length (intCs ws) ∧ e' = .returned (.tuple #[v, .agg #[.int .i64 0, .int .i64 0], .int .i64 0])) ∨
    ∃ l c e, r = .inr (l, c, e) ∧ e ≠ 0 ∧ e' = .returned (.tuple #[.slice none 0 0, .agg #[.int .i64 l, .int .i64 c], .int .i64 e]))

theorem size_setCell' (w : World) (a : Addr) (v : Value) : (w.setCell a v).heap.size = w.heap.size := by simp [World.setCell]

set_option maxRecDepth 100000 in
set_option maxHeartbeats 2000000 in
theorem Assemble_any (s : ByteArray) (w : World) (ht : Tab w) (hsm : s.size ≤ maxLen) :
    Calls Tryd.prog 48 #[.string s] w (AmPost w (asmP s)) := by
  have HA := hide (fun w' (h' : Tab w') => assemble_any s w' h' hsm)
  go_enter Tryd.func48, Tryd.ntmps48
  go_wp2_with fail
  refine (unhide HA _ (ht.below ht.pos ((Below.refl _ _).alloc (Nat.le_refl _) _))).mono ?_
  rintro e w1 ⟨hb1, hres⟩
  have HB1 : Hid (Below w.heap.size w w1) := ((Below.refl _ _).alloc (Nat.le_refl _) _).trans (hb1.mono (by rw [size_alloc1]; omega))
  have p0 : w1.cell? ⟨w.heap.size, 0, none⟩ = some (.int .i64 0) := by rw [below_cell' hb1 _ _ (by rw [size_alloc1]; omega), World.cell?_alloc_at (hn := rfl)]; rfl
  have p1 : w1.cell? ⟨w.heap.size, 1, none⟩ = some (.int .i64 0) := by rw [below_cell' hb1 _ _ (by rw [size_alloc1]; omega), World.cell?_alloc_at (hn := rfl)]; rfl
  have pf : ∀ j, w1.frozen? ⟨w.heap.size, j, none⟩ = false := fun j => by rw [hb1.frozen (p := ⟨w.heap.size, j, none⟩) (by rw [size_alloc1]; show w.heap.size < _; omega), World.frozen?_alloc_at (hn := rfl)]
  have hz : w.heap.size < w1.heap.size := block_lt_of_cell p0
  clear hb1
  rcases hres with ⟨ws, v, hr, hown, rfl⟩ | ⟨v, l, c, er, hr, her, rfl⟩
  · have HR := hide hr; have HO := hide hown
    clear hr hown HA
    go_wp2_with fail
    refine bodyPost_ret (v := .tuple #[v, .agg #[.int .i64 0, .int .i64 0], .int .i64 0]) (by simp [results, Tryd.results48, go_sem, p0, p1, hz]) rfl ?_
    unfold AmPost
    have y : Below w.heap.size w ((w1.setCell ⟨w.heap.size, 0, none⟩ (.int .i64 0)).setCell ⟨w.heap.size, 1, none⟩ (.int .i64 0)) := (HB1.out.setCell (p := ⟨w.heap.size, 0, none⟩) (Nat.le_refl _) _).setCell (p := ⟨w.heap.size, 1, none⟩) (Nat.le_refl _) _
    refine ⟨y.alloc y.size _, .inl ⟨ws, v, HR.out, ?_, rfl⟩⟩
    have hm : w.heap.size ≤ (w.alloc (.cells #[.int .i64 0, .int .i64 0] 41)).heap.size := by rw [size_alloc1]; omega
    refine (ownsRow_keep HO.out (fun g hg => ?_)).mono hm
    have hgB := row_lt HO.out g hg
    rw [size_alloc1] at hgB
    have hgne : g ≠ w.heap.size := by omega
    have hsz : g < ((w1.setCell ⟨w.heap.size, 0, none⟩ (.int .i64 0)).setCell ⟨w.heap.size, 1, none⟩ (.int .i64 0)).heap.size := by
      rw [size_setCell', size_setCell']; exact hgB.2
    exact (Below.heap_alloc _ _ g hsz).trans ((heap_set_other _ _ hgne).trans (heap_set_other _ _ hgne))
  · have HR := hide hr
    clear hr HA
    go_wp2_with fail
    refine held_tail 5 1 (fun w' => w'.cell? ⟨w1.heap.size, 0, none⟩ = some (.int .i64 l) ∧ w'.cell? ⟨w1.heap.size, 1, none⟩ = some (.int .i64 c) ∧ w'.cell? ⟨w1.heap.size, 2, none⟩ = some (.int .i64 er)) (by kernel_rfl) (by kernel_rfl) (fun d _ _ _ _ h => by cases d <;> exact h) ⟨cell_new w1 _ _ 0 _ rfl, cell_new w1 _ _ 1 _ rfl, cell_new w1 _ _ 2 _ rfl⟩ ?_
    simp only [List.take_succ_cons, List.take_zero, List.drop_succ_cons, List.drop_zero]
    iterate 5
      refine wpTake_step ?_ rfl ?_ ?_
      rotate_left
      · rintro w' ⟨d0, d1, d2⟩
        go_simp
        rfl
      go_simp
    refine wpTake_nil ?_
    refine wpTail_step rfl (fun K hK => ?_)
    go_simp
    refine hK _ _ ?_ ?_
    · have e : ((w1.setCell ⟨w.heap.size, 0, none⟩ (.int .i64 l)).setCell ⟨w.heap.size, 1, none⟩ (.int .i64 c)).heap.size = w1.heap.size := by rw [size_setCell', size_setCell']
      have k : ∀ j u, #[Value.int .i64 l, .int .i64 c, .int .i64 er][j]? = some u → ((((w1.setCell ⟨w.heap.size, 0, none⟩ (.int .i64 l)).setCell ⟨w.heap.size, 1, none⟩ (.int .i64 c)).alloc (.cells #[.int .i64 l, .int .i64 c, .int .i64 er] 116)).drew).cell? ⟨w1.heap.size, j, none⟩ = some u := fun j u hu => by
        have := cell_new ((w1.setCell ⟨w.heap.size, 0, none⟩ (.int .i64 l)).setCell ⟨w.heap.size, 1, none⟩ (.int .i64 c)) #[.int .i64 l, .int .i64 c, .int .i64 er] 116 j u hu
        rw [e] at this
        exact this
      exact ⟨k 0 _ rfl, k 1 _ rfl, k 2 _ rfl⟩
    clear hK K
    unfold wpTailS
    go_wp2_with fail
    refine bodyPost_ret (v := .tuple #[.slice none 0 0, .agg #[.int .i64 l, .int .i64 c], .int .i64 er]) (by simp [results, Tryd.results48, go_sem, p0, p1, hz]) rfl ?_
    unfold AmPost
    have y : Below w.heap.size w ((w1.setCell ⟨w.heap.size, 0, none⟩ (.int .i64 l)).setCell ⟨w.heap.size, 1, none⟩ (.int .i64 c)) := (HB1.out.setCell (p := ⟨w.heap.size, 0, none⟩) (Nat.le_refl _) _).setCell (p := ⟨w.heap.size, 1, none⟩) (Nat.le_refl _) _
    exact ⟨(y.alloc y.size _).drew, .inr ⟨_, _, _, HR.out, her, rfl⟩⟩

set_option maxRecDepth 100000 in
set_option maxHeartbeats 2000000 in
theorem cribAssemble_any (s : ByteArray) (w : World) (ht : Tab w) (hsm : s.size ≤ maxLen) :
    Calls Tryd.prog 17 #[.string s] w (AmPost w (asmP s)) := by
  have HA := hide (fun w' (h' : Tab w') => Assemble_any s w' h' hsm)
  go_enter Tryd.func17, Tryd.ntmps17
  go_wp2_with fail
  refine (unhide HA _ (ht.below ht.pos ((Below.refl _ _).alloc (Nat.le_refl _) _))).mono ?_
  rintro e w1 ⟨hb1, hres⟩
  have HB1 : Hid (Below w.heap.size w w1) := ((Below.refl _ _).alloc (Nat.le_refl _) _).trans (hb1.mono (by rw [size_alloc1]; omega))
  have p0 : w1.cell? ⟨w.heap.size, 0, none⟩ = some (.int .i64 0) := by rw [below_cell' hb1 _ _ (by rw [size_alloc1]; omega), World.cell?_alloc_at (hn := rfl)]; rfl
  have p1 : w1.cell? ⟨w.heap.size, 1, none⟩ = some (.int .i64 0) := by rw [below_cell' hb1 _ _ (by rw [size_alloc1]; omega), World.cell?_alloc_at (hn := rfl)]; rfl
  have pf : ∀ j, w1.frozen? ⟨w.heap.size, j, none⟩ = false := fun j => by rw [hb1.frozen (p := ⟨w.heap.size, j, none⟩) (by rw [size_alloc1]; show w.heap.size < _; omega), World.frozen?_alloc_at (hn := rfl)]
  clear hb1
  rcases hres with ⟨ws, v, hr, hown, rfl⟩ | ⟨l, c, er, hr, her, rfl⟩
  · have HR := hide hr; have HO := hide hown
    clear hr hown HA
    go_wp2_with fail
    refine bodyPost_ret (v := .tuple #[v, .agg #[.int .i64 0, .int .i64 0], .int .i64 0]) (by simp [results, Tryd.results17, go_sem, p0, p1]) rfl ?_
    unfold AmPost
    have y : Below w.heap.size w ((w1.setCell ⟨w.heap.size, 0, none⟩ (.int .i64 0)).setCell ⟨w.heap.size, 1, none⟩ (.int .i64 0)) := (HB1.out.setCell (p := ⟨w.heap.size, 0, none⟩) (Nat.le_refl _) _).setCell (p := ⟨w.heap.size, 1, none⟩) (Nat.le_refl _) _
    refine ⟨y, .inl ⟨ws, v, HR.out, ?_, rfl⟩⟩
    have hm : w.heap.size ≤ (w.alloc (.cells #[.int .i64 0, .int .i64 0] 41)).heap.size := by rw [size_alloc1]; omega
    refine (ownsRow_keep HO.out (fun g hg => ?_)).mono hm
    have hgB := row_lt HO.out g hg
    rw [size_alloc1] at hgB
    have hgne : g ≠ w.heap.size := by omega
    exact (heap_set_other _ _ hgne).trans (heap_set_other _ _ hgne)
  · have HR := hide hr
    clear hr HA
    go_wp2_with fail
    refine bodyPost_ret (v := .tuple #[.slice none 0 0, .agg #[.int .i64 l, .int .i64 c], .int .i64 er]) (by simp [results, Tryd.results17, go_sem, p0, p1]) rfl ?_
    unfold AmPost
    have y : Below w.heap.size w ((w1.setCell ⟨w.heap.size, 0, none⟩ (.int .i64 l)).setCell ⟨w.heap.size, 1, none⟩ (.int .i64 c)) := (HB1.out.setCell (p := ⟨w.heap.size, 0, none⟩) (Nat.le_refl _) _).setCell (p := ⟨w.heap.size, 1, none⟩) (Nat.le_refl _) _
    exact ⟨y, .inr ⟨_, _, _, HR.out, her, rfl⟩⟩
end Go.Proofs.YtmmflekajbeamaaDoor

namespace Go.Proofs.YtmmflekajbeamaaDoor
open Go.RowKit

/-- What writing marks m leaves: blocks below B as they were; in rows of numbers marks stay marks; other blocks as they were. -/
structure KM (B : Nat) (m : Int) (w w' : World) : Prop where
  below : Below B w w'
  keep : ∀ (g : Nat) (cur : Array Value), w.heap[g]? = some (.cells cur 3 (0, 0)) → ∃ cur' : Array Value, w'.heap[g]? = some (.cells cur' 3 (0, 0)) ∧ cur'.size = cur.size ∧ ∀ j : Nat, cur[j]? = some (Value.int .i64 m) → cur'[j]? = some (Value.int .i64 m)
  other : ∀ g, g < w.heap.size → (∀ cur, w.heap[g]? ≠ some (.cells cur 3 (0, 0))) → w'.heap[g]? = w.heap[g]?
theorem KM.refl (B : Nat) (m : Int) (w : World) : KM B m w w := ⟨Below.refl _ _, fun _ cur h => ⟨cur, h, rfl, fun _ h => h⟩, fun _ _ _ => rfl⟩
theorem KM.trans {B : Nat} {m : Int} {a b c : World} (h : KM B m a b) (k : KM B m b c) : KM B m a c := by
  refine ⟨h.below.trans k.below, fun g cur hg => ?_, fun g hg hn => ?_⟩
  · obtain ⟨c1, h1, h2, h3⟩ := h.keep g cur hg
    obtain ⟨c2, k1, k2, k3⟩ := k.keep g c1 h1
    exact ⟨c2, k1, k2.trans h2, fun j hj => k3 j (h3 j hj)⟩
  · have h1 := h.other g hg hn
    exact (k.other g (Nat.lt_of_lt_of_le hg h.below.size) (fun cur e => hn cur (h1 ▸ e))).trans h1
theorem KM.above {B : Nat} {m : Int} {a b : World} (hB : B ≤ a.heap.size) (h : Below a.heap.size a b) : KM B m a b :=
  ⟨h.mono hB, fun g cur hg => ⟨cur, (h.block g (Array.getElem?_eq_some_iff.1 hg).1).trans hg, rfl, fun _ h => h⟩, fun g hg _ => h.block g hg⟩
/-- A slice whose elements are all the mark m. -/
def MS (w : World) (v : Value) (m : Int) : Prop :=
  ∃ a n c, v = .slice a n c ∧ n ≤ 10000 ∧ (0 < n → ∃ g cur, a = some ⟨g, 0, none⟩ ∧ w.heap[g]? = some (.cells cur 3 (0, 0)) ∧ ∀ j : Nat, j < n → cur[j]? = some (Value.int .i64 m))
theorem MS.km {B : Nat} {m : Int} {w w' : World} {v : Value} (h : MS w v m) (k : KM B m w w') : MS w' v m := by
  obtain ⟨a, n, c, hv, hle, h⟩ := h
  refine ⟨a, n, c, hv, hle, fun hn => ?_⟩
  obtain ⟨g, cur, ha, hg, hc⟩ := h hn
  obtain ⟨cur', g1, _, g3⟩ := k.keep g cur hg
  exact ⟨g, cur', ha, g1, fun j hj => g3 j (hc j hj)⟩
theorem MS.block {w w' : World} {v : Value} {m : Int} (h : MS w v m) (k : ∀ g, g < w.heap.size → (∃ cur, w.heap[g]? = some (.cells cur 3 (0, 0))) → w'.heap[g]? = w.heap[g]?) : MS w' v m := by
  obtain ⟨a, n, c, hv, hle, h⟩ := h
  refine ⟨a, n, c, hv, hle, fun hn => ?_⟩
  obtain ⟨g, cur, ha, hg, hc⟩ := h hn
  exact ⟨g, cur, ha, (k g (Array.getElem?_eq_some_iff.1 hg).1 ⟨cur, hg⟩).trans hg, hc⟩
def mks (n : Nat) (m : Int) : List Value := List.replicate n (.int .i64 m)
theorem take_iff (cur : Array Value) (n : Nat) (m : Int) : cur.toList.take (n * 1) = mks n m ↔ ∀ j : Nat, j < n → cur[j]? = some (.int .i64 m) := by
  rw [Nat.mul_one]
  constructor
  · intro h j hj
    have : (cur.toList.take n)[j]? = (mks n m)[j]? := by rw [h]
    rw [List.getElem?_take, if_pos hj] at this
    unfold mks at this
    rw [List.getElem?_replicate, if_pos hj] at this
    rw [← this, Array.getElem?_toList]
  · intro h
    apply List.ext_getElem?
    intro j
    unfold mks
    rw [List.getElem?_take, List.getElem?_replicate]
    by_cases hj : j < n
    · rw [if_pos hj, if_pos hj, Array.getElem?_toList, h j hj]
    · rw [if_neg hj, if_neg hj]
theorem own_ms {w : World} {B : Nat} {v : Value} {n : Nat} {m : Int} (h : w.ownsRow B 3 1 v n (mks n m)) (hn : n ≤ 10000) : MS w v m := by
  rcases h.2 with ⟨rfl, h0⟩ | ⟨g, cap, cur, rfl, hb, hg, hnc, hcm, hcs, ht⟩
  · exact ⟨none, 0, 0, rfl, by omega, fun h => by omega⟩
  · exact ⟨_, n, cap, rfl, hn, fun _ => ⟨g, cur, rfl, hg, (take_iff cur n m).1 ht⟩⟩
theorem own_km {w w' : World} {B B' : Nat} {v : Value} {n : Nat} {m : Int} (h : w.ownsRow B 3 1 v n (mks n m)) (k : KM B' m w w') : w'.ownsRow B 3 1 v n (mks n m) := by
  refine ⟨h.1, ?_⟩
  rcases h.2 with h0 | ⟨g, cap, cur, hv, hb, hg, hnc, hcm, hcs, ht⟩
  · exact .inl h0
  · obtain ⟨cur', g1, g2, g3⟩ := k.keep g cur hg
    exact .inr ⟨g, cap, cur', hv, hb, g1, hnc, hcm, g2.trans hcs, (take_iff cur' n m).2 (fun j hj => g3 j ((take_iff cur n m).1 ht j hj))⟩
/-- A mark is written into a row. -/
theorem KM.store {B : Nat} {m : Int} {w : World} {g n cap : Nat} {xs : List Value} (h : w.ownsRow B 3 1 (.slice (some ⟨g, 0, none⟩) n cap) n xs) (j : Nat) : KM B m w (w.setCell ⟨g, j, none⟩ (.int .i64 m)) := by
  obtain ⟨cur0, hg0⟩ := ownsRow_kind h g rfl
  refine ⟨(Below.refl _ _).setCell (p := ⟨g, j, none⟩) (row_lt h g rfl).1 _, fun k cur hk => ?_, fun k _ hn => ?_⟩
  · by_cases hkg : k = g
    · subst hkg
      rw [hg0] at hk
      cases hk
      refine ⟨cur0.setIfInBounds j (.int .i64 m), heap_setCell_same w k j cur0 _ _ hg0, by simp, fun i hi => ?_⟩
      rw [Array.getElem?_setIfInBounds]
      split
      · rename_i hij
        subst hij
        rw [if_pos (Array.getElem?_eq_some_iff.1 hi).1]
      · exact hi
    · exact ⟨cur, (heap_set_other w _ hkg).trans hk, rfl, fun _ h => h⟩
  · exact heap_set_other w _ (fun e => hn cur0 (e ▸ hg0))
set_option maxRecDepth 4000 in
/-- Marks are appended to a list of marks. -/
theorem run_append_m (w : World) (m : Int) (B : Nat) (v : Value) (n k c : Nat) (ty : TypeId) (h : w.ownsRow B 3 1 v n (mks n m)) (ad : Addr) (hnews : ∀ j u, (mks k m)[j]? = some u → w.cell? (ad.add j) = some u) (hk : 0 < k) (hn : n + k ≤ 10000) (hB : B ≤ w.heap.size) :
    ∃ v' w', (Builtin.append_ #[36, 36] ty #[v, .slice (some ad) k c]).run Tryd.prog w = .ok v' w' ∧ w'.ownsRow B 3 1 v' (n + k) (mks (n + k) m) ∧ KM B m w w' ∧ ∃ a cc, v' = .slice a (n + k) cc := by
  obtain ⟨inf, hinf, hz, hsz1, hby⟩ := infoInt
  have hl : (mks k m).length = k * 1 := by simp [mks]
  have h1 : ∀ u ∈ mks k m, u.oneCell' = true := fun u hu => by rw [List.eq_of_mem_replicate hu]; rfl
  have happ : mks n m ++ mks k m = mks (n + k) m := by unfold mks; rw [List.replicate_append_replicate]
  rcases h.2 with ⟨hv, hn0⟩ | ⟨g, cap, cur, hv, hb, hg, hnc, hcm, hcs, ht⟩
  · obtain ⟨v', w', hr, hown, hgr, _, _⟩ := run_append_own_at (P := Tryd.prog) w B 36 ty 3 inf _ 1 8 Tryd.underlying36 hinf hz hsz1 hby rfl (by decide) v n _ h ad k c (mks k m) hl hnews h1 (by unfold maxLen; omega) (by omega) hB
    rw [happ] at hown
    refine ⟨v', w', hr, hown, ?_, owns_len hown⟩
    refine KM.above hB ⟨hgr.os, hgr.tape, hgr.output, hgr.size, fun i hi => hgr.block i hi (by rw [hv]; simp [Value.ownBlock])⟩
  · by_cases hroom : n + k ≤ cap
    · have hfit : n * inf.size + (mks k m).length ≤ cur.size := by rw [hsz1, hl, hcs]; omega
      have hr := run_append_room (P := Tryd.prog) w 36 ty 3 inf Tryd.underlying36 hinf g n cap cur hg ad k c (mks k m) (by rw [hsz1]; exact hl) hnews h1 hroom hfit
      rw [hv]
      have hcell : ∀ j, (cur.toList.take (n * inf.size) ++ mks k m ++ cur.toList.drop (n * inf.size + (mks k m).length)).toArray[j]? = if n ≤ j ∧ j < n + k then some (.int .i64 m) else cur[j]? := fun j => by
        rw [hsz1, hl, Nat.mul_one, Nat.mul_one, List.getElem?_toArray, List.append_assoc]
        have hnl : n ≤ cur.toList.length := by rw [Array.length_toList]; omega
        have htl : (cur.toList.take n).length = n := by rw [List.length_take]; omega
        by_cases hj : j < n
        · rw [List.getElem?_append_left (by omega), List.getElem?_take, if_pos hj, if_neg (by omega), Array.getElem?_toList]
        · rw [List.getElem?_append_right (by omega), htl]
          by_cases hj2 : j < n + k
          · rw [List.getElem?_append_left (by rw [hl]; omega), if_pos (by omega)]
            unfold mks
            rw [List.getElem?_replicate, if_pos (by omega)]
          · rw [List.getElem?_append_right (by rw [hl]; omega), hl, List.getElem?_drop, if_neg (by omega), Array.getElem?_toList]
            congr 1
            omega
      have hsize : (cur.toList.take (n * inf.size) ++ mks k m ++ cur.toList.drop (n * inf.size + (mks k m).length)).toArray.size = cur.size := by
        rw [hsz1]
        simp only [List.size_toArray, List.length_append, List.length_take, List.length_drop, Array.length_toList, hl]
        omega
      generalize (cur.toList.take (n * inf.size) ++ mks k m ++ cur.toList.drop (n * inf.size + (mks k m).length)).toArray = cur' at *
      have hg' := setRow_heap w g cur cur' 3 (0, 0) hg
      have hold := (take_iff cur n m).1 ht
      have hnew : ∀ j, j < n + k → cur'[j]? = some (.int .i64 m) := fun j hj => by
        rw [hcell]
        by_cases hjn : n ≤ j
        · rw [if_pos ⟨hjn, hj⟩]
        · rw [if_neg (by omega)]
          exact hold j (by omega)
      refine ⟨_, _, hr, ⟨by simp [mks], .inr ⟨g, cap, cur', rfl, hb, hg', hroom, hcm, by rw [hsize]; exact hcs, (take_iff cur' (n + k) m).2 hnew⟩⟩, ⟨⟨rfl, rfl, rfl, by simp, fun i hi => setRow_other w g i _ (by omega)⟩, fun i ci hi => ?_, fun i _ hni => setRow_other w g i _ (fun e => hni cur (e ▸ hg))⟩, ⟨_, _, rfl⟩⟩
      by_cases hig : i = g
      · subst hig
        rw [hg] at hi
        cases hi
        refine ⟨cur', hg', hsize, fun j hj => ?_⟩
        rw [hcell]
        split
        · rfl
        · exact hj
      · exact ⟨ci, (setRow_other w g i _ hig).trans hi, rfl, fun _ h => h⟩
    · rw [hv] at h ⊢
      have holds : ∀ j u, (mks n m)[j]? = some u → w.cell? ((⟨g, 0, none⟩ : Addr).add j) = some u := h.cells (g := g) rfl
      have hr := run_append_grow (P := Tryd.prog) w 36 ty 3 inf _ Tryd.underlying36 hinf hz ⟨g, 0, none⟩ n cap (mks n m) (by rw [hsz1]; exact h.1) holds ad k c (mks k m) (by rw [hsz1]; exact hl) hnews (by omega) (by omega) (growslice_fits (by omega) (by rw [hby]; omega))
      obtain ⟨v', w', hr', hown, hgr, _, hloc⟩ := run_append_own_at (P := Tryd.prog) w B 36 ty 3 inf _ 1 8 Tryd.underlying36 hinf hz hsz1 hby rfl (by decide) _ n _ h ad k c (mks k m) hl hnews h1 (by unfold maxLen; omega) (by omega) hB
      rw [happ] at hown
      have he : v' = .slice (some ⟨w.heap.size, 0, none⟩) (n + k) (grownCap w (n + k) cap 3) ∧ w' = w.drew.alloc (.cells ((mks n m).toArray ++ (mks k m).toArray ++ Builtin.zeroCells (Value.int .i64 0).cells (grownCap w (n + k) cap 3 - (n + k))) 3) := by
        rw [hr] at hr'
        simp only [Result.ok.injEq] at hr'
        exact ⟨hr'.1.symm, hr'.2.symm⟩
      refine ⟨v', w', hr', hown, ?_, owns_len hown⟩
      rw [he.2]
      exact KM.above hB ⟨rfl, rfl, rfl, by simp, fun i hi => Below.heap_alloc w.drew _ i hi⟩
end Go.Proofs.YtmmflekajbeamaaDoor
