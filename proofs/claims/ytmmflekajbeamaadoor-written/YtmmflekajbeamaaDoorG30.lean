/-
  THE PROGRAM's Assemble: what it gives, for every text.
-/
import Derived.Test.YtmmflekajbeamaaDoorG23
namespace Go.Proofs.YtmmflekajbeamaaDoor
open Go.RowKit Go.Maps Go.WideMaps

/-- The words, in new memory of their own, or the fault's place and number. -/
def AmPost (w : World) (r : List Int ⊕ (Int × Int × Int)) (e' : Ending) (w' : World) : Prop :=
  Below w.heap.size w w' ∧ ((∃ ws v, r = .inl ws ∧ w'.ownsRow w.heap.size 3 1 v ws.length (intCs ws) ∧ e' = .returned (.tuple #[v, .agg #[.int .i64 0, .int .i64 0], .int .i64 0])) ∨
    ∃ l c e, r = .inr (l, c, e) ∧ e ≠ 0 ∧ e' = .returned (.tuple #[.slice none 0 0, .agg #[.int .i64 l, .int .i64 c], .int .i64 e]))

theorem size_setCell' (w : World) (a : Addr) (v : Value) : (w.setCell a v).heap.size = w.heap.size := by simp [World.setCell]

set_option maxRecDepth 100000 in
set_option maxHeartbeats 2000000 in
theorem Assemble_any (s : ByteArray) (w : World) (ht : Tab w) (hsm : s.size ≤ maxLen) :
    Calls Tryd.prog 48 #[.string s] w (AmPost w (asmP s)) := by
  have HA := hide (fun w' (h' : Tab w') => assemble_any s w' h' hsm)
  go_enter Tryd.func48, Tryd.ntmps48
  go_wp2_with fail
  refine (unhide HA _ (ht.below ht.pos ((Below.refl _ _).alloc (Nat.le_refl _) _))).mono ?_
  rintro e w1 ⟨hb1, hres⟩
  have HB1 : Hid (Below w.heap.size w w1) := ((Below.refl _ _).alloc (Nat.le_refl _) _).trans (hb1.mono (by rw [size_alloc1]; omega))
  have p0 : w1.cell? ⟨w.heap.size, 0, none⟩ = some (.int .i64 0) := by rw [below_cell' hb1 _ _ (by rw [size_alloc1]; omega), World.cell?_alloc_at (hn := rfl)]; rfl
  have p1 : w1.cell? ⟨w.heap.size, 1, none⟩ = some (.int .i64 0) := by rw [below_cell' hb1 _ _ (by rw [size_alloc1]; omega), World.cell?_alloc_at (hn := rfl)]; rfl
  have pf : ∀ j, w1.frozen? ⟨w.heap.size, j, none⟩ = false := fun j => by rw [hb1.frozen (p := ⟨w.heap.size, j, none⟩) (by rw [size_alloc1]; show w.heap.size < _; omega), World.frozen?_alloc_at (hn := rfl)]
  have hz : w.heap.size < w1.heap.size := block_lt_of_cell p0
  clear hb1
  rcases hres with ⟨ws, v, hr, hown, rfl⟩ | ⟨v, l, c, er, hr, her, rfl⟩
  · have HR := hide hr; have HO := hide hown
    clear hr hown HA
    go_wp2_with fail
    refine bodyPost_ret (v := .tuple #[v, .agg #[.int .i64 0, .int .i64 0], .int .i64 0]) (by simp [results, Tryd.results48, go_sem, p0, p1, hz]) rfl ?_
    unfold AmPost
    have y : Below w.heap.size w ((w1.setCell ⟨w.heap.size, 0, none⟩ (.int .i64 0)).setCell ⟨w.heap.size, 1, none⟩ (.int .i64 0)) := (HB1.out.setCell (p := ⟨w.heap.size, 0, none⟩) (Nat.le_refl _) _).setCell (p := ⟨w.heap.size, 1, none⟩) (Nat.le_refl _) _
    refine ⟨y.alloc y.size _, .inl ⟨ws, v, HR.out, ?_, rfl⟩⟩
    have hm : w.heap.size ≤ (w.alloc (.cells #[.int .i64 0, .int .i64 0] 41)).heap.size := by rw [size_alloc1]; omega
    refine (ownsRow_keep HO.out (fun g hg => ?_)).mono hm
    have hgB := row_lt HO.out g hg
    rw [size_alloc1] at hgB
    have hgne : g ≠ w.heap.size := by omega
    have hsz : g < ((w1.setCell ⟨w.heap.size, 0, none⟩ (.int .i64 0)).setCell ⟨w.heap.size, 1, none⟩ (.int .i64 0)).heap.size := by
      rw [size_setCell', size_setCell']; exact hgB.2
    exact (Below.heap_alloc _ _ g hsz).trans ((heap_set_other _ _ hgne).trans (heap_set_other _ _ hgne))
  · have HR := hide hr
    clear hr HA
    go_wp2_with fail
    refine held_tail 5 1 (fun w' => w'.cell? ⟨w1.heap.size, 0, none⟩ = some (.int .i64 l) ∧ w'.cell? ⟨w1.heap.size, 1, none⟩ = some (.int .i64 c) ∧ w'.cell? ⟨w1.heap.size, 2, none⟩ = some (.int .i64 er)) (by kernel_rfl) (by kernel_rfl) (fun d _ _ _ _ h => by cases d <;> exact h) ⟨cell_new w1 _ _ 0 _ rfl, cell_new w1 _ _ 1 _ rfl, cell_new w1 _ _ 2 _ rfl⟩ ?_
    simp only [List.take_succ_cons, List.take_zero, List.drop_succ_cons, List.drop_zero]
    iterate 5
      refine wpTake_step ?_ rfl ?_ ?_
      rotate_left
      · rintro w' ⟨d0, d1, d2⟩
        go_simp
        rfl
      go_simp
    refine wpTake_nil ?_
    refine wpTail_step rfl (fun K hK => ?_)
    go_simp
    refine hK _ _ ?_ ?_
    · have e : ((w1.setCell ⟨w.heap.size, 0, none⟩ (.int .i64 l)).setCell ⟨w.heap.size, 1, none⟩ (.int .i64 c)).heap.size = w1.heap.size := by rw [size_setCell', size_setCell']
      have k : ∀ j u, #[Value.int .i64 l, .int .i64 c, .int .i64 er][j]? = some u → ((((w1.setCell ⟨w.heap.size, 0, none⟩ (.int .i64 l)).setCell ⟨w.heap.size, 1, none⟩ (.int .i64 c)).alloc (.cells #[.int .i64 l, .int .i64 c, .int .i64 er] 116)).drew).cell? ⟨w1.heap.size, j, none⟩ = some u := fun j u hu => by
        have := cell_new ((w1.setCell ⟨w.heap.size, 0, none⟩ (.int .i64 l)).setCell ⟨w.heap.size, 1, none⟩ (.int .i64 c)) #[.int .i64 l, .int .i64 c, .int .i64 er] 116 j u hu
        rw [e] at this
        exact this
      exact ⟨k 0 _ rfl, k 1 _ rfl, k 2 _ rfl⟩
    clear hK K
    unfold wpTailS
    go_wp2_with fail
    refine bodyPost_ret (v := .tuple #[.slice none 0 0, .agg #[.int .i64 l, .int .i64 c], .int .i64 er]) (by simp [results, Tryd.results48, go_sem, p0, p1, hz]) rfl ?_
    unfold AmPost
    have y : Below w.heap.size w ((w1.setCell ⟨w.heap.size, 0, none⟩ (.int .i64 l)).setCell ⟨w.heap.size, 1, none⟩ (.int .i64 c)) := (HB1.out.setCell (p := ⟨w.heap.size, 0, none⟩) (Nat.le_refl _) _).setCell (p := ⟨w.heap.size, 1, none⟩) (Nat.le_refl _) _
    exact ⟨(y.alloc y.size _).drew, .inr ⟨_, _, _, HR.out, her, rfl⟩⟩

set_option maxRecDepth 100000 in
set_option maxHeartbeats 2000000 in
theorem cribAssemble_any (s : ByteArray) (w : World) (ht : Tab w) (hsm : s.size ≤ maxLen) :
    Calls Tryd.prog 17 #[.string s] w (AmPost w (asmP s)) := by
  have HA := hide (fun w' (h' : Tab w') => Assemble_any s w' h' hsm)
  go_enter Tryd.func17, Tryd.ntmps17
  go_wp2_with fail
  refine (unhide HA _ (ht.below ht.pos ((Below.refl _ _).alloc (Nat.le_refl _) _))).mono ?_
  rintro e w1 ⟨hb1, hres⟩
  have HB1 : Hid (Below w.heap.size w w1) := ((Below.refl _ _).alloc (Nat.le_refl _) _).trans (hb1.mono (by rw [size_alloc1]; omega))
  have p0 : w1.cell? ⟨w.heap.size, 0, none⟩ = some (.int .i64 0) := by rw [below_cell' hb1 _ _ (by rw [size_alloc1]; omega), World.cell?_alloc_at (hn := rfl)]; rfl
  have p1 : w1.cell? ⟨w.heap.size, 1, none⟩ = some (.int .i64 0) := by rw [below_cell' hb1 _ _ (by rw [size_alloc1]; omega), World.cell?_alloc_at (hn := rfl)]; rfl
  have pf : ∀ j, w1.frozen? ⟨w.heap.size, j, none⟩ = false := fun j => by rw [hb1.frozen (p := ⟨w.heap.size, j, none⟩) (by rw [size_alloc1]; show w.heap.size < _; omega), World.frozen?_alloc_at (hn := rfl)]
  clear hb1
  rcases hres with ⟨ws, v, hr, hown, rfl⟩ | ⟨l, c, er, hr, her, rfl⟩
  · have HR := hide hr; have HO := hide hown
    clear hr hown HA
    go_wp2_with fail
    refine bodyPost_ret (v := .tuple #[v, .agg #[.int .i64 0, .int .i64 0], .int .i64 0]) (by simp [results, Tryd.results17, go_sem, p0, p1]) rfl ?_
    unfold AmPost
    have y : Below w.heap.size w ((w1.setCell ⟨w.heap.size, 0, none⟩ (.int .i64 0)).setCell ⟨w.heap.size, 1, none⟩ (.int .i64 0)) := (HB1.out.setCell (p := ⟨w.heap.size, 0, none⟩) (Nat.le_refl _) _).setCell (p := ⟨w.heap.size, 1, none⟩) (Nat.le_refl _) _
    refine ⟨y, .inl ⟨ws, v, HR.out, ?_, rfl⟩⟩
    have hm : w.heap.size ≤ (w.alloc (.cells #[.int .i64 0, .int .i64 0] 41)).heap.size := by rw [size_alloc1]; omega
    refine (ownsRow_keep HO.out (fun g hg => ?_)).mono hm
    have hgB := row_lt HO.out g hg
    rw [size_alloc1] at hgB
    have hgne : g ≠ w.heap.size := by omega
    exact (heap_set_other _ _ hgne).trans (heap_set_other _ _ hgne)
  · have HR := hide hr
    clear hr HA
    go_wp2_with fail
    refine bodyPost_ret (v := .tuple #[.slice none 0 0, .agg #[.int .i64 l, .int .i64 c], .int .i64 er]) (by simp [results, Tryd.results17, go_sem, p0, p1]) rfl ?_
    unfold AmPost
    have y : Below w.heap.size w ((w1.setCell ⟨w.heap.size, 0, none⟩ (.int .i64 l)).setCell ⟨w.heap.size, 1, none⟩ (.int .i64 c)) := (HB1.out.setCell (p := ⟨w.heap.size, 0, none⟩) (Nat.le_refl _) _).setCell (p := ⟨w.heap.size, 1, none⟩) (Nat.le_refl _) _
    exact ⟨y, .inr ⟨_, _, _, HR.out, her, rfl⟩⟩
end Go.Proofs.YtmmflekajbeamaaDoor
