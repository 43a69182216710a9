/-
  A state that came in is 138 numbers.
  The numbers of a struct that came in are numbers of 64 bits.
-/
import Derived.Test.YtmmflekajbeamabGreatDoorK32
import Derived.MapViews
import Derived.DeepKeys2
namespace Go.Proofs.YtmmflekajbeamabGreatDoor
open Go.ChangeShapes Go.WideShapes Go.ChangeAt Go.WideMaps Go.WideElems Go.RowKit

theorem types34 : Tryz.prog.cellTypes Tryz.prog.depth 25 = some (List.replicate 138 3) := by kernel_rfl
theorem c34 : Tryz.prog.cellsOf 25 = 138 := by kernel_rfl
set_option maxRecDepth 100000 in
/-- A state that came in: 138 numbers. -/
theorem agg_S {W : World} {b : Nat} {v : Value} (h : Value.okWide Tryz.prog W .any b 25 v) : ∃ z : List Int, v = .agg (S z) ∧ z.length = 138 := by
  unfold Value.okWide at h
  rw [Tryz.underlying25] at h
  obtain ⟨cs, rfl, hs, ts, hts, _, hc⟩ := h
  rw [c34] at hs
  obtain rfl := Option.some.inj (types34.symm.trans hts)
  have hi : ∀ (i : Nat) (hi : i < cs.toList.length), ∃ n, cs.toList[i] = .int .i64 n := fun i hi => by
    obtain ⟨u, hu, hk⟩ := hc i (cs.toList[i]) (by simp)
    rw [List.length_replicate, List.getElem?_replicate] at hu
    split at hu
    · obtain rfl := Option.some.inj hu
      obtain ⟨n, hn⟩ := okWide_int (r := .any) (base := b) (w := W) Tryz.underlying3 (show Value.okWide Tryz.prog W .any b 3 (cs.toList[i]) from by unfold Value.okWide; rw [Tryz.underlying3]; exact hk)
      exact ⟨n, hn⟩
    · cases hu
  have hz : ∃ z : List Int, cs.toList = z.map (Value.int .i64) := by
    have hm : ∀ x ∈ cs.toList, ∃ n, x = Value.int .i64 n := fun x hx => by
      obtain ⟨i, hlt, rfl⟩ := List.mem_iff_getElem.1 hx
      exact hi i hlt
    generalize cs.toList = l at hm
    induction l with
    | nil => exact ⟨[], rfl⟩
    | cons x l ih =>
      obtain ⟨n, rfl⟩ := hm x (by simp)
      obtain ⟨z, hz⟩ := ih (fun y hy => hm y (by simp [hy]))
      exact ⟨n :: z, by rw [hz]; rfl⟩
  obtain ⟨z, hz⟩ := hz
  refine ⟨z, ?_, ?_⟩
  · congr 1
    apply Array.toList_inj.1
    rw [hz]; simp [S]
  · have := congrArg List.length hz
    simp at this
    omega

end Go.Proofs.YtmmflekajbeamabGreatDoor

namespace Go.Proofs.YtmmflekajbeamabGreatDoor
open Go.ChangeShapes Go.WideShapes Go.ChangeAt Go.WideMaps Go.WideElems Go.RowKit

theorem trod_wf {H : Type} {enc : TypeId × Value → H} {W : World} {base : Nat} {sp : Nat → Bool} {held : Bool} {t : TypeId} {v : Value} {d : DataW H} {p : List MemPlace} {m m' : Nat}
    (hk : Tryz.prog.keyTypeAt m t = true) (hti : Tryz.prog.tiled m' t = true) (h : DataW.Trod enc Tryz.prog W base sp held t v d p) : ∀ n, Value.int .i64 n ∈ v.cells.toList → -9223372036854775808 ≤ n ∧ n ≤ 9223372036854775807 := by
  obtain ⟨fuel, hf⟩ := h
  obtain ⟨h1, _⟩ := keyLits_of_trod m t hk fuel _ _ hf
  have h2 := cells_of_lits m' t hti m _ _ h1
  have h3 := keyLits_wf h1
  intro n hn
  rw [h2] at hn
  obtain ⟨c, hc, he⟩ := List.mem_map.1 hn
  have hw := h3 c hc
  cases c with
  | int q k =>
    simp only [Lit.toCell, Value.int.injEq] at he
    obtain ⟨rfl, rfl⟩ := he
    exact Go.bounds_i64 hw
  | _ => simp [Lit.toCell] at he
theorem agg_Sb {H : Type} {enc : TypeId × Value → H} {W : World} {base : Nat} {sp : Nat → Bool} {held : Bool} {z : List Int} {d : DataW H} {p : List MemPlace} (h : DataW.Trod enc Tryz.prog W base sp held 25 (.agg (S z)) d p) : ∀ x ∈ z, -9223372036854775808 ≤ x ∧ x ≤ 9223372036854775807 := fun x hx =>
  trod_wf (m := 8) (m' := 8) (by kernel_rfl) (by kernel_rfl) h x (by
    show Value.int .i64 x ∈ (S z).toList
    unfold S
    simpa using hx)
end Go.Proofs.YtmmflekajbeamabGreatDoor
