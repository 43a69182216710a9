/-
  The document's own Assemble: what it gives, for every text.
-/
import Derived.Test.YtmmflekajbeamaaDoorG21
import Derived.Test.YtmmflekajbeamaaDoorG24
namespace Go.Proofs.YtmmflekajbeamaaDoor
open Go.RowKit

/-- The document's answer to a text. -/
def asmD (s : ByteArray) : List Int ⊕ (Int × Int × Int) :=
  if 2000 < s.size then .inr (0, 0, 2) else match brkGo s s.size 0 1 1 with
    | some (l, c) => .inr (l, c, 3)
    | none => match passD [] true 0 ((linesD s).map toksD) [] [] with
      | .inr f => .inr f
      | .inl (_, lb) => match passD lb false 0 ((linesD s).map toksD) [] [] with
        | .inr f => .inr f
        | .inl (ws, _) => .inl ws

/-- The lines and tokens of a valid text. -/
theorem doc_ok (s : ByteArray) (hs : s.size ≤ 2000) (hv : brkGo s s.size 0 1 1 = none) :
    (∀ x ∈ linesD s, (∀ p ∈ (toksD x).1, Val p.1 ∧ 1 ≤ p.1.size ∧ p.1.size ≤ 2000) ∧ (toksD x).1.length ≤ 2010) ∧ (linesD s).length ≤ 2010 ∧ ∀ x ∈ linesD s, Val x ∧ x.size ≤ 2000 := by
  obtain ⟨st, hc⟩ := (cut_brk s s.size 0 cs0).2 hv
  obtain ⟨_, htok, hl1, hl2⟩ := cut_all s hs st hc
  obtain ⟨hmap, _⟩ := cut_lines s st hv hc
  refine ⟨fun x hx => ?_, ?_, ?_⟩
  · have hm : toksD x ∈ (linesD s).map toksD := List.mem_map_of_mem hx
    rw [← hmap] at hm
    obtain ⟨L, hL, he⟩ := List.mem_map.1 hm
    rw [← he]
    refine ⟨fun p hp => ?_, ?_⟩
    · obtain ⟨t, ht, hpe⟩ := List.mem_map.1 hp
      obtain ⟨h1, h2, h3, _⟩ := htok L hL t ht
      rw [← hpe]
      exact ⟨h1, h2, h3⟩
    · show (tm L).length ≤ 2010
      unfold tm
      rw [List.length_map]
      exact hl2 L hL
  · have := congrArg List.length hmap
    rw [List.length_map, List.length_map] at this
    omega
  · have := lines_val s hs s.size 0 0 1 1 (Nat.zero_le _) (by omega) hv (Seg.nil _) (Nat.le_refl _)
    rw [Nat.sub_zero] at this
    exact this

def RmPost (w : World) (r : List Int ⊕ (Int × Int × Int)) (e' : Ending) (w' : World) : Prop :=
  Below w.heap.size w w' ∧ ((∃ ws v, r = .inl ws ∧ w'.ownsRow w.heap.size 3 1 v ws.length (intCs ws) ∧ e' = .returned (.tuple #[v, .agg #[.int .i64 0, .int .i64 0], .int .i64 0])) ∨
    ∃ l c e, r = .inr (l, c, e) ∧ e ≠ 0 ∧ e' = .returned (.tuple #[.slice none 0 0, .agg #[.int .i64 l, .int .i64 c], .int .i64 e]))
/-- Two cells, all nought, that may be written. -/
structure P0 (w : World) (F : Nat) : Prop where
  p0 : w.cell? ⟨F, 0, none⟩ = some (.int .i64 0)
  p1 : w.cell? ⟨F, 1, none⟩ = some (.int .i64 0)
  pf : ∀ j, w.frozen? ⟨F, j, none⟩ = false
theorem P0.block {w w' : World} {F : Nat} (h : P0 w F) (hb : w'.heap[F]? = w.heap[F]?) : P0 w' F :=
  ⟨(World.cell?_of_block hb).trans h.p0, (World.cell?_of_block hb).trans h.p1, fun j => (World.frozen?_of_block hb).trans (h.pf j)⟩
theorem P0.new (w : World) : P0 (w.alloc (.cells #[.int .i64 0, .int .i64 0] 41)) w.heap.size := by
  refine ⟨?_, ?_, fun j => ?_⟩
  iterate 2
    · rw [World.cell?_alloc_at (hn := rfl)]; rfl
  · rw [World.frozen?_alloc_at (hn := rfl)]
theorem below_set2 {B : Nat} {w w2 : World} (h : Below B w w2) {n : Nat} (hn : B ≤ n) (x y : Value) : Below B w ((w2.setCell ⟨n, 0, none⟩ x).setCell ⟨n, 1, none⟩ y) :=
  (h.setCell (p := ⟨n, 0, none⟩) hn x).setCell (p := ⟨n, 1, none⟩) hn y

set_option maxRecDepth 100000 in
set_option maxHeartbeats 8000000 in
theorem rAssemble_any (s : ByteArray) (w : World) (hsm : s.size ≤ maxLen) :
    Calls Tryd.prog 38 #[.string s] w (RmPost w (asmD s)) := by
  have hM : (s.size : Int) ≤ 9223372036854775807 := by unfold maxLen at hsm; omega
  by_cases hs : 2000 < s.size
  · have HR : Hid (asmD s = .inr (0, 0, 2)) := by unfold Hid asmD; rw [if_pos hs]
    have hs' : (2000 : Int) < (s.size : Int) := by omega
    go_enter Tryd.func38, Tryd.ntmps38
    go_wp2_with fail
    refine bodyPost_ret (v := .tuple #[.slice none 0 0, .agg #[.int .i64 0, .int .i64 0], .int .i64 2]) (by simp [results, Tryd.results38, go_sem]) rfl ?_
    unfold RmPost
    exact ⟨(Below.refl _ _).alloc (Nat.le_refl _) _, .inr ⟨_, _, _, HR.out, by decide, rfl⟩⟩
  · have hs2 : s.size ≤ 2000 := by omega
    have hs' : ¬ (2000 : Int) < (s.size : Int) := by omega
    have HBr := hide (fun w' => broken_any s w' hs2)
    go_enter Tryd.func38, Tryd.ntmps38
    go_wp2_with fail
    refine (unhide HBr _).mono ?_
    rintro e w1 ⟨hb1, hres⟩
    have HB1 : Hid (Below w.heap.size w w1) := ((Below.refl _ _).alloc (Nat.le_refl _) _).trans (hb1.mono (by rw [size_alloc1]; omega))
    have HP1 := hide ((P0.new w).block (hb1.block w.heap.size (by rw [size_alloc1]; omega)))
    have hz : w.heap.size < w1.heap.size := block_lt_of_cell HP1.out.p0
    clear hb1 HBr
    rcases hres with ⟨hbr, rfl⟩ | ⟨l, c, hbr, hl1, rfl⟩
    · obtain ⟨d1, d2, d3⟩ := doc_ok s hs2 hbr
      have HR : Hid (asmD s = match passD [] true 0 ((linesD s).map toksD) [] [] with
        | .inr f => .inr f
        | .inl (_, lb) => match passD lb false 0 ((linesD s).map toksD) [] [] with
          | .inr f => .inr f
          | .inl (ws, _) => .inl ws) := by
        unfold Hid asmD
        rw [if_neg hs, hbr]
      have HPa := hide (fun B vl lb ga w' (hl : LbAt w' B vl lb) (hll : lb.length ≤ 5000) (hlb : ∀ p ∈ lb, 0 ≤ p.2 ∧ p.2 ≤ 128) => pass_any s B vl lb ga w' hs2 hl hll hlb d3 d1 d2)
      generalize (linesD s).map toksD = DL at *
      clear d1 d2 d3 hbr
      obtain ⟨p0, p1, pf⟩ := HP1.out
      go_wp2_with fail
      refine (unhide HPa 0 _ [] true _ (World.ownsRow_nil _ _ _ _) (by decide) (fun p hp => by cases hp)).mono ?_
      rintro e w2 ⟨hb2, hres⟩
      have hs1 : (w1.alloc (.cells #[.int .i64 0, .int .i64 0] 41)).heap.size = w1.heap.size + 1 := size_alloc1 _ _
      have HB2 : Hid (Below w1.heap.size w1 w2) := ((Below.refl _ _).alloc (Nat.le_refl _) _).trans (hb2.mono (by omega))
      have HB2w : Hid (Below w.heap.size w w2) := HB1.out.trans (HB2.out.mono HB1.out.size)
      have HQ := hide ((P0.new w1).block (hb2.block w1.heap.size (by omega)))
      have HP2 := hide (HP1.out.block (HB2.out.block _ hz))
      have hz2 : w1.heap.size < w2.heap.size := block_lt_of_cell HQ.out.p0
      clear hb2 p0 p1 pf
      obtain ⟨p0, p1, pf⟩ := HP2.out
      obtain ⟨q0, q1, qf⟩ := HQ.out
      have hne01 : w.heap.size ≠ w1.heap.size := by omega
      rcases hres with ⟨ws, mk, v, vm, hr, _, hmk, hml, hmb, rfl⟩ | ⟨l, c, er, hr, her, rfl⟩
      · have HR2 : Hid (asmD s = match passD mk false 0 DL [] [] with | .inr f => .inr f | .inl (ws, _) => .inl ws) := by
          unfold Hid
          rw [HR.out, hr]
        have HMk := hide hmk; have HMb := hide hmb
        clear hr hmk hmb HR
        have HWd : ∀ {e : TypeId} {kk n : Nat} {v : Value} {xs : List Value}, w2.ownsRow (w1.heap.size + 1) e kk v n xs → ((w2.setCell ⟨w1.heap.size, 0, none⟩ (.int .i64 0)).setCell ⟨w1.heap.size, 1, none⟩ (.int .i64 0)).ownsRow (w1.heap.size + 1) e kk v n xs := fun ho =>
          ownsRow_keep ho (fun g hg => by
            have hgB := (row_lt ho g hg).1
            have hgne : g ≠ w1.heap.size := by omega
            exact (heap_set_other _ _ hgne).trans (heap_set_other _ _ hgne))
        have HMk2 : Hid (LbAt ((w2.setCell ⟨w1.heap.size, 0, none⟩ (.int .i64 0)).setCell ⟨w1.heap.size, 1, none⟩ (.int .i64 0)) (w1.heap.size + 1) vm mk) := by
          have := HMk.out
          rw [hs1] at this
          exact HWd this
        have HX := hide (HPa.out (w1.heap.size + 1) vm mk false _ HMk2.out (by omega) HMb.out)
        clear HMk HPa HWd
        go_wp2_with fail
        have HBX : Hid (Below w.heap.size w ((w2.setCell ⟨w1.heap.size, 0, none⟩ (.int .i64 0)).setCell ⟨w1.heap.size, 1, none⟩ (.int .i64 0))) := below_set2 HB2w.out (Nat.le_of_lt hz) _ _
        have HQX : Hid (P0 ((w2.setCell ⟨w1.heap.size, 0, none⟩ (.int .i64 0)).setCell ⟨w1.heap.size, 1, none⟩ (.int .i64 0)) w1.heap.size) := ⟨cell_of_rows (cell_set_same q0) (by decide), cell_set_same (cell_of_rows q1 (by decide)), fun j => by rw [World.frozen?_setCell, World.frozen?_setCell]; exact qf j⟩
        have HPX : Hid (P0 ((w2.setCell ⟨w1.heap.size, 0, none⟩ (.int .i64 0)).setCell ⟨w1.heap.size, 1, none⟩ (.int .i64 0)) w.heap.size) := HP2.out.block ((heap_set_other _ _ hne01).trans (heap_set_other _ _ hne01))
        generalize (w2.setCell ⟨w1.heap.size, 0, none⟩ (.int .i64 0)).setCell ⟨w1.heap.size, 1, none⟩ (.int .i64 0) = X at *
        refine (unhide HX).mono ?_
        rintro e w3 ⟨hb3, hres⟩
        have hzX : w1.heap.size < X.heap.size := block_lt_of_cell HQX.out.p0
        have HBw3 : Hid (Below w.heap.size w w3) := HBX.out.trans (hb3.mono HBX.out.size)
        clear p0 p1 pf q0 q1 qf
        obtain ⟨p0, p1, pf⟩ := HPX.out.block (hb3.block _ (by omega))
        obtain ⟨q0, q1, qf⟩ := HQX.out.block (hb3.block _ hzX)
        clear hb3 HX HMk2
        rcases hres with ⟨ws2, mk2, v2, vm2, hr, hw2, _, _, _, rfl⟩ | ⟨l, c, er, hr, her, rfl⟩
        · have HF : Hid (asmD s = .inl ws2) := by
            unfold Hid
            rw [HR2.out, hr]
          have HO := hide hw2
          clear hr hw2 HR2
          have hne10 : ¬ w1.heap.size = w.heap.size := by omega
          go_wp2_with fail
          refine bodyPost_ret (v := .tuple #[v2, .agg #[.int .i64 0, .int .i64 0], .int .i64 0]) (by simp [results, Tryd.results38, go_sem, p0, p1]) rfl ?_
          unfold RmPost
          refine ⟨below_set2 (below_set2 HBw3.out (Nat.le_of_lt hz) _ _) (Nat.le_refl w.heap.size) _ _, .inl ⟨ws2, v2, HF.out, ?_, rfl⟩⟩
          refine (ownsRow_keep HO.out (fun g hg => ?_)).mono (by omega)
          have hgB := (row_lt HO.out g hg).1
          have g1 : g ≠ w.heap.size := by omega
          have g2 : g ≠ w1.heap.size := by omega
          exact (heap_set_other _ _ g1).trans ((heap_set_other _ _ g1).trans ((heap_set_other _ _ g2).trans (heap_set_other _ _ g2)))
        · have HF : Hid (asmD s = .inr (l, c, er)) := by
            unfold Hid
            rw [HR2.out, hr]
          clear hr HR2
          have herb : (er == 0) = false := by rw [beq_eq_false_iff_ne]; exact her
          go_wp2_with fail
          have hne10 : ¬ w1.heap.size = w.heap.size := by omega
          refine held_tail 3 1 (fun w' => w'.cell? ⟨w1.heap.size, 0, none⟩ = some (.int .i64 l) ∧ w'.cell? ⟨w1.heap.size, 1, none⟩ = some (.int .i64 c)) (by kernel_rfl) (by kernel_rfl) (fun d _ _ _ _ h => by cases d <;> exact h) ⟨cell_of_rows (cell_set_same q0) (by decide), cell_set_same (cell_of_rows q1 (by decide))⟩ ?_
          simp only [List.take_succ_cons, List.take_zero, List.drop_succ_cons, List.drop_zero]
          iterate 3
            refine wpTake_step ?_ rfl ?_ ?_
            rotate_left
            · rintro w' ⟨d0, d1⟩
              go_simp
              rfl
            go_simp
          refine wpTake_nil ?_
          refine wpTail_step rfl (fun K hK => ?_)
          go_simp
          refine hK _ _ ?_ ?_
          · have k0 : ∀ j u, ((w3.setCell ⟨w1.heap.size, 0, none⟩ (.int .i64 l)).setCell ⟨w1.heap.size, 1, none⟩ (.int .i64 c)).cell? ⟨w1.heap.size, j, none⟩ = some u → ((((w3.setCell ⟨w1.heap.size, 0, none⟩ (.int .i64 l)).setCell ⟨w1.heap.size, 1, none⟩ (.int .i64 c)).setCell ⟨w.heap.size, 0, none⟩ (.int .i64 l)).setCell ⟨w.heap.size, 1, none⟩ (.int .i64 c)).drew.cell? ⟨w1.heap.size, j, none⟩ = some u := fun j u hu =>
              (World.cell?_of_block ((heap_set_other _ _ hne10).trans (heap_set_other _ _ hne10))).trans hu
            exact ⟨k0 0 _ (cell_of_rows (cell_set_same q0) (by decide)), k0 1 _ (cell_set_same (cell_of_rows q1 (by decide)))⟩
          clear hK K
          unfold wpTailS
          go_wp2_with fail
          refine bodyPost_ret (v := .tuple #[.slice none 0 0, .agg #[.int .i64 l, .int .i64 c], .int .i64 er]) (by simp [results, Tryd.results38, go_sem, p0, p1]) rfl ?_
          unfold RmPost
          refine ⟨?_, .inr ⟨_, _, _, HF.out, her, rfl⟩⟩
          exact (below_set2 (below_set2 HBw3.out (Nat.le_of_lt hz) (.int .i64 l) (.int .i64 c)) (Nat.le_refl w.heap.size) (.int .i64 l) (.int .i64 c)).drew
      · have HF : Hid (asmD s = .inr (l, c, er)) := by
          unfold Hid
          rw [HR.out, hr]
        clear hr HR HPa
        have herb : (er == 0) = false := by rw [beq_eq_false_iff_ne]; exact her
        go_wp2_with fail
        have hne10 : ¬ w1.heap.size = w.heap.size := by omega
        refine held_tail 3 1 (fun w' => w'.cell? ⟨w1.heap.size, 0, none⟩ = some (.int .i64 l) ∧ w'.cell? ⟨w1.heap.size, 1, none⟩ = some (.int .i64 c)) (by kernel_rfl) (by kernel_rfl) (fun d _ _ _ _ h => by cases d <;> exact h) ⟨cell_of_rows (cell_set_same q0) (by decide), cell_set_same (cell_of_rows q1 (by decide))⟩ ?_
        simp only [List.take_succ_cons, List.take_zero, List.drop_succ_cons, List.drop_zero]
        iterate 3
          refine wpTake_step ?_ rfl ?_ ?_
          rotate_left
          · rintro w' ⟨d0, d1⟩
            go_simp
            rfl
          go_simp
        refine wpTake_nil ?_
        refine wpTail_step rfl (fun K hK => ?_)
        go_simp
        refine hK _ _ ?_ ?_
        · have k0 : ∀ j u, ((w2.setCell ⟨w1.heap.size, 0, none⟩ (.int .i64 l)).setCell ⟨w1.heap.size, 1, none⟩ (.int .i64 c)).cell? ⟨w1.heap.size, j, none⟩ = some u → ((((w2.setCell ⟨w1.heap.size, 0, none⟩ (.int .i64 l)).setCell ⟨w1.heap.size, 1, none⟩ (.int .i64 c)).setCell ⟨w.heap.size, 0, none⟩ (.int .i64 l)).setCell ⟨w.heap.size, 1, none⟩ (.int .i64 c)).drew.cell? ⟨w1.heap.size, j, none⟩ = some u := fun j u hu =>
            (World.cell?_of_block ((heap_set_other _ _ hne10).trans (heap_set_other _ _ hne10))).trans hu
          exact ⟨k0 0 _ (cell_of_rows (cell_set_same q0) (by decide)), k0 1 _ (cell_set_same (cell_of_rows q1 (by decide)))⟩
        clear hK K
        unfold wpTailS
        go_wp2_with fail
        refine bodyPost_ret (v := .tuple #[.slice none 0 0, .agg #[.int .i64 l, .int .i64 c], .int .i64 er]) (by simp [results, Tryd.results38, go_sem, p0, p1]) rfl ?_
        unfold RmPost
        refine ⟨?_, .inr ⟨_, _, _, HF.out, her, rfl⟩⟩
        exact (below_set2 (below_set2 HB2w.out (Nat.le_of_lt hz) (.int .i64 l) (.int .i64 c)) (Nat.le_refl w.heap.size) (.int .i64 l) (.int .i64 c)).drew
    · have HR : Hid (asmD s = .inr (l, c, 3)) := by unfold Hid asmD; rw [if_neg hs, hbr]
      obtain ⟨p0, p1, pf⟩ := HP1.out
      have hl1' : (0 : Int) < l := by omega
      clear hbr
      go_wp2_with fail
      refine still_tail 2 (by kernel_rfl) (by kernel_rfl) ?_
      simp only [List.take_succ_cons, List.take_zero, List.drop_succ_cons, List.drop_zero]
      repeat still_step
      refine wpStill_nil ?_
      go_wp2_with fail
      refine bodyPost_ret (v := .tuple #[.slice none 0 0, .agg #[.int .i64 l, .int .i64 c], .int .i64 3]) (by simp [results, Tryd.results38, go_sem, p0, p1, hz]) rfl ?_
      unfold RmPost
      refine ⟨?_, .inr ⟨_, _, _, HR.out, by decide, rfl⟩⟩
      have y := below_set2 HB1.out (Nat.le_refl w.heap.size) (.int .i64 l) (.int .i64 c)
      exact (y.alloc y.size _).drew
end Go.Proofs.YtmmflekajbeamaaDoor
