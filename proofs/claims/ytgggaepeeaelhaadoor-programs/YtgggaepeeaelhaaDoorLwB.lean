/-
  The law's own functions on lists: two lists the same (sameInts); marks (markInt).
-/
import Derived.Test.YtgggaepeeaelhaaDoorLwA
namespace Go.Proofs.YtgggaepeeaelhaaDoor
open Go.RowKit

set_option maxRecDepth 100000 in
set_option maxHeartbeats 1000000 in
theorem markInt_any (n : Int) (w : World) (h0 : 0 ≤ n) (h1 : n ≤ 100000) :
    Calls Tryd.prog 73 #[.int .i64 n] w fun e' w' => e' = .returned (.int .i64 (-1000 - n)) ∧ w' = w := by
  go_enter Tryd.func73, Tryd.ntmps73
  go_wp2
  go_ret
  exact ⟨rfl, rfl⟩

set_option maxRecDepth 100000 in
set_option maxHeartbeats 2000000 in
theorem sameInts_yes (a b : Value) (B B' : Nat) (ws : List Int) (w : World) (ha : w.ownsRow B 3 1 a ws.length (intCs ws)) (hb : w.ownsRow B' 3 1 b ws.length (intCs ws)) (hl : ws.length ≤ 128) :
    Calls Tryd.prog 39 #[a, b] w fun e' w' => e' = .returned (.bool true) ∧ Below w.heap.size w w' := by
  obtain ⟨aa, ac, rfl⟩ := owns_len ha
  obtain ⟨ba, bc, rfl⟩ := owns_len hb
  have HA := hide ha; have HB := hide hb
  clear ha hb
  go_enter Tryd.func39, Tryd.ntmps39
  go_wp2_with fail
  go_loopw [5] (fun i wr => ∃ k : Nat, k ≤ ws.length ∧ i = .int .i64 k ∧ Below w.heap.size w wr) (fun i _ => ws.length - (intOf i).toNat)
  case atStart => exact ⟨0, Nat.zero_le _, rfl, Below.refl _ _⟩
  case round =>
    obtain ⟨k, hk, rfl, hbl⟩ := hrel
    have HBl := hide hbl
    by_cases hlt : k < ws.length
    · have hlt' : (k : Int) < (ws.length : Int) := by omega
      obtain ⟨g1, c1, hf1, _, hg1⟩ := HA.out.form (by omega)
      obtain ⟨g2, c2, hf2, _, hg2⟩ := HB.out.form (by omega)
      cases hf1
      cases hf2
      have cell : ∀ {B g cap}, w.ownsRow B 3 1 (.slice (some ⟨g, 0, none⟩) ws.length cap) ws.length (intCs ws) → w.cell? ⟨g, k, none⟩ = some (.int .i64 ws[k]) := fun h => by
        rw [h.cellAt k (by omega)]
        unfold intCs
        rw [List.getElem?_map, List.getElem?_eq_getElem hlt]
        rfl
      have x1 := (below_cell' hbl g1 k hg1).trans (cell HA.out)
      have x2 := (below_cell' hbl g2 k hg2).trans (cell HB.out)
      generalize ws[k] = y at *
      clear cell hbl
      go_wp2_with fail
      go_quiet (fail)
      go_wp2_with fail
      exact ⟨⟨k + 1, by omega, by go_num, below_drewN HBl.out nq⟩, by simp [intOf]; omega⟩
    · have hlt' : ¬ (k : Int) < (ws.length : Int) := by omega
      clear hbl
      go_wp2_with fail
      go_ret
      exact ⟨rfl, HBl.out⟩
end Go.Proofs.YtgggaepeeaelhaaDoor
