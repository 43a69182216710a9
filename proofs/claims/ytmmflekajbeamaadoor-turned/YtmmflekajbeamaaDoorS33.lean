/-
  A state that came in is 138 numbers.
  The numbers of a struct that came in are numbers of 64 bits.
  A put that came in is five numbers of 64 bits.
-/
import Derived.Test.YtmmflekajbeamaaDoorS32
import Derived.MapViews
import Derived.DeepKeys2
namespace Go.Proofs.YtmmflekajbeamaaDoor
open Go.ChangeShapes Go.WideShapes Go.ChangeAt Go.WideMaps Go.WideElems Go.RowKit

theorem types34 : Tryd.prog.cellTypes Tryd.prog.depth 34 = some (List.replicate 138 3) := by kernel_rfl
theorem c34 : Tryd.prog.cellsOf 34 = 138 := by kernel_rfl
set_option maxRecDepth 100000 in
/-- A state that came in: 138 numbers. -/
theorem agg_S {W : World} {b : Nat} {v : Value} (h : Value.okWide Tryd.prog W .any b 34 v) : ∃ z : List Int, v = .agg (S z) ∧ z.length = 138 := by
  unfold Value.okWide at h
  rw [Tryd.underlying34] at h
  obtain ⟨cs, rfl, hs, ts, hts, _, hc⟩ := h
  rw [c34] at hs
  obtain rfl := Option.some.inj (types34.symm.trans hts)
  have hi : ∀ (i : Nat) (hi : i < cs.toList.length), ∃ n, cs.toList[i] = .int .i64 n := fun i hi => by
    obtain ⟨u, hu, hk⟩ := hc i (cs.toList[i]) (by simp)
    rw [List.length_replicate, List.getElem?_replicate] at hu
    split at hu
    · obtain rfl := Option.some.inj hu
      obtain ⟨n, hn⟩ := okWide_int (r := .any) (base := b) (w := W) Tryd.underlying3 (show Value.okWide Tryd.prog W .any b 3 (cs.toList[i]) from by unfold Value.okWide; rw [Tryd.underlying3]; exact hk)
      exact ⟨n, hn⟩
    · cases hu
  have hz : ∃ z : List Int, cs.toList = z.map (Value.int .i64) := by
    have hm : ∀ x ∈ cs.toList, ∃ n, x = Value.int .i64 n := fun x hx => by
      obtain ⟨i, hlt, rfl⟩ := List.mem_iff_getElem.1 hx
      exact hi i hlt
    generalize cs.toList = l at hm
    induction l with
    | nil => exact ⟨[], rfl⟩
    | cons x l ih =>
      obtain ⟨n, rfl⟩ := hm x (by simp)
      obtain ⟨z, hz⟩ := ih (fun y hy => hm y (by simp [hy]))
      exact ⟨n :: z, by rw [hz]; rfl⟩
  obtain ⟨z, hz⟩ := hz
  refine ⟨z, ?_, ?_⟩
  · congr 1
    apply Array.toList_inj.1
    rw [hz]; simp [S]
  · have := congrArg List.length hz
    simp at this
    omega

end Go.Proofs.YtmmflekajbeamaaDoor

namespace Go.Proofs.YtmmflekajbeamaaDoor
open Go.ChangeShapes Go.WideShapes Go.ChangeAt Go.WideMaps Go.WideElems Go.RowKit

theorem trod_wf {H : Type} {enc : TypeId × Value → H} {W : World} {base : Nat} {sp : Nat → Bool} {held : Bool} {t : TypeId} {v : Value} {d : DataW H} {p : List MemPlace} {m m' : Nat}
    (hk : Tryd.prog.keyTypeAt m t = true) (hti : Tryd.prog.tiled m' t = true) (h : DataW.Trod enc Tryd.prog W base sp held t v d p) : ∀ n, Value.int .i64 n ∈ v.cells.toList → -9223372036854775808 ≤ n ∧ n ≤ 9223372036854775807 := by
  obtain ⟨fuel, hf⟩ := h
  obtain ⟨h1, _⟩ := keyLits_of_trod m t hk fuel _ _ hf
  have h2 := cells_of_lits m' t hti m _ _ h1
  have h3 := keyLits_wf h1
  intro n hn
  rw [h2] at hn
  obtain ⟨c, hc, he⟩ := List.mem_map.1 hn
  have hw := h3 c hc
  cases c with
  | int q k =>
    simp only [Lit.toCell, Value.int.injEq] at he
    obtain ⟨rfl, rfl⟩ := he
    exact Go.bounds_i64 hw
  | _ => simp [Lit.toCell] at he
theorem agg_Sb {H : Type} {enc : TypeId × Value → H} {W : World} {base : Nat} {sp : Nat → Bool} {held : Bool} {z : List Int} {d : DataW H} {p : List MemPlace} (h : DataW.Trod enc Tryd.prog W base sp held 34 (.agg (S z)) d p) : ∀ x ∈ z, -9223372036854775808 ≤ x ∧ x ≤ 9223372036854775807 := fun x hx =>
  trod_wf (m := 8) (m' := 8) (by kernel_rfl) (by kernel_rfl) h x (by
    show Value.int .i64 x ∈ (S z).toList
    unfold S
    simpa using hx)
end Go.Proofs.YtmmflekajbeamaaDoor

namespace Go.Proofs.YtmmflekajbeamaaDoor
open Go.ChangeShapes Go.WideShapes Go.ChangeAt Go.WideMaps Go.WideElems Go.RowKit

theorem types59 : Tryd.prog.cellTypes Tryd.prog.depth 59 = some (List.replicate 5 3) := by kernel_rfl
theorem c59 : Tryd.prog.cellsOf 59 = 5 := by kernel_rfl
set_option maxRecDepth 100000 in
/-- A put that came in: five numbers. -/
theorem agg_P {W : World} {b : Nat} {v : Value} (h : Value.okWide Tryd.prog W .any b 59 v) : ∃ z : List Int, v = .agg (S z) ∧ z.length = 5 := by
  unfold Value.okWide at h
  rw [Tryd.underlying59] at h
  obtain ⟨cs, rfl, hs, ts, hts, _, hc⟩ := h
  rw [c59] at hs
  obtain rfl := Option.some.inj (types59.symm.trans hts)
  have hi : ∀ (i : Nat) (hi : i < cs.toList.length), ∃ n, cs.toList[i] = .int .i64 n := fun i hi => by
    obtain ⟨u, hu, hk⟩ := hc i (cs.toList[i]) (by simp)
    rw [List.length_replicate, List.getElem?_replicate] at hu
    split at hu
    · obtain rfl := Option.some.inj hu
      obtain ⟨n, hn⟩ := okWide_int (r := .any) (base := b) (w := W) Tryd.underlying3 (show Value.okWide Tryd.prog W .any b 3 (cs.toList[i]) from by unfold Value.okWide; rw [Tryd.underlying3]; exact hk)
      exact ⟨n, hn⟩
    · cases hu
  have hz : ∃ z : List Int, cs.toList = z.map (Value.int .i64) := by
    have hm : ∀ x ∈ cs.toList, ∃ n, x = Value.int .i64 n := fun x hx => by
      obtain ⟨i, hlt, rfl⟩ := List.mem_iff_getElem.1 hx
      exact hi i hlt
    generalize cs.toList = l at hm
    induction l with
    | nil => exact ⟨[], rfl⟩
    | cons x l ih =>
      obtain ⟨n, rfl⟩ := hm x (by simp)
      obtain ⟨z, hz⟩ := ih (fun y hy => hm y (by simp [hy]))
      exact ⟨n :: z, by rw [hz]; rfl⟩
  obtain ⟨z, hz⟩ := hz
  refine ⟨z, ?_, ?_⟩
  · congr 1
    apply Array.toList_inj.1
    rw [hz]; simp [S]
  · have := congrArg List.length hz
    simp at this
    omega

theorem agg_Pb {H : Type} {enc : TypeId × Value → H} {W : World} {base : Nat} {sp : Nat → Bool} {held : Bool} {z : List Int} {d : DataW H} {p : List MemPlace} (h : DataW.Trod enc Tryd.prog W base sp held 59 (.agg (S z)) d p) : ∀ x ∈ z, -9223372036854775808 ≤ x ∧ x ≤ 9223372036854775807 := fun x hx =>
  trod_wf (m := 8) (m' := 8) (by kernel_rfl) (by kernel_rfl) h x (by
    show Value.int .i64 x ∈ (S z).toList
    unfold S
    simpa using hx)
theorem five {z : List Int} (h : z.length = 5) : ∃ a b c d e, z = [a, b, c, d, e] := by
  match z, h with
  | [a, b, c, d, e], _ => exact ⟨a, b, c, d, e, rfl⟩
end Go.Proofs.YtmmflekajbeamaaDoor
