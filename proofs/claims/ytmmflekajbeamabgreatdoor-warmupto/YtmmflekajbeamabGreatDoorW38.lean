/-
  A list of numbers that came in, as it lies in memory.
  A state that came in is 138 numbers.
  The numbers of a struct that came in are numbers of 64 bits.
-/
import Derived.Test.YtmmflekajbeamabGreatDoorW37
import Derived.MapViews
import Derived.DeepKeys2
namespace Go.Proofs.YtmmflekajbeamabGreatDoor
open Go.ChangeShapes Go.WideShapes Go.ChangeAt Go.WideMaps Go.WideElems Go.RowKit

section
variable {H : Type} {enc : TypeId × Value → H} {w : World} {base : Nat} {sp : Nat → Bool} {held : Bool}
theorem pick_list {P : Nat → Int → Prop} : ∀ n, (∀ i, i < n → ∃ x, P i x) → ∃ xs : List Int, xs.length = n ∧ ∀ (i : Nat) (x : Int), xs[i]? = some x → P i x
  | 0, _ => ⟨[], rfl, fun i x h => by cases h⟩
  | n + 1, h => by
    obtain ⟨xs, hl, hx⟩ := pick_list n (fun i hi => h i (by omega))
    obtain ⟨y, hy⟩ := h n (Nat.lt_succ_self _)
    refine ⟨xs ++ [y], by rw [List.length_append, hl]; rfl, fun i x hi => ?_⟩
    rcases Nat.lt_or_ge i xs.length with c | c
    · rw [List.getElem?_append_left c] at hi
      exact hx i x hi
    · rw [List.getElem?_append_right c] at hi
      have c2 : i - xs.length < 1 := (List.getElem?_eq_some_iff.1 hi).1
      have e : i = n := by omega
      rw [show i - xs.length = 0 by omega] at hi
      cases hi
      rw [e]
      exact hy
/-- A whole list that came in. -/
theorem pieces_open {fuel : Nat} {v : Value} {d : DataW H} {p : List MemPlace} (h : DataW.trod enc Tryz.prog w base sp held fuel 41 v.cells.toList = some (d, p)) (hv : ∃ a len cap, v = .slice a len cap) (hlt : ∀ x ∈ p, x.block < w.heap.size) : ∃ xs, PiAt v xs w ∧ xs.length ≤ Rows.uptoBulk d := by
  obtain ⟨a0, len0, cap0, rfl⟩ := hv
  rcases Go.Deep.open_slice Tryz.underlying41 h with ⟨hcs, _⟩ | ⟨a, len, cap, m, n, D, Pl, hcs, hb, hl, hm, hmm, hx, hel⟩
  · simp [Value.cells] at hcs
    obtain ⟨rfl, rfl, rfl⟩ := hcs
    exact ⟨[], ⟨⟨none, 0, rfl⟩, fun i x hx => by cases hx⟩, Nat.zero_le _⟩
  · simp [Value.cells] at hcs
    obtain ⟨rfl, rfl, rfl⟩ := hcs
    simp only [Prod.mk.injEq] at hx
    obtain ⟨hd, hp⟩ := hx
    rw [hp] at hlt
    have hbk : len0 ≤ Rows.uptoBulk d := by
      have h1 := bulk_len ((List.range len0).map D)
      rw [List.length_map, List.length_range] at h1
      rw [hd]
      simp only [Rows.uptoBulk]
      omega
    clear hd hp h
    rw [c_int] at hel hlt
    have hlm : len0 ≤ m := by rw [hmm]; split <;> omega
    have key : ∀ i, i < len0 → ∃ x : Int, ∃ g o, a = ⟨g, o, none⟩ ∧ g < w.heap.size ∧ w.cell? ⟨g, o + i, none⟩ = some (.int .i64 x) ∧ -9223372036854775808 ≤ x ∧ x ≤ 9223372036854775807 := fun i hi => by
      obtain ⟨cs', h1, h2⟩ := hel i (by omega)
      obtain ⟨_, hcl, hcell⟩ := World.cells?_some h1
      obtain ⟨y, e1, _, hw⟩ := DataW.trod_int Tryz.underlying3 h2
      have hc := hcell 0 (by omega)
      rw [e1] at hc
      obtain ⟨cz, z1, z2⟩ := hel 0 (by omega)
      obtain ⟨_, hzl, hzc⟩ := World.cells?_some z1
      have hc0 := hzc 0 (by omega)
      rw [List.getElem?_eq_getElem (by omega)] at hc0
      obtain ⟨blk, off, spot⟩ := a
      have hspot : spot = none := by simpa [Addr.add] using World.cell?_spot hc0
      subst hspot
      refine ⟨y, blk, off, rfl, ?_, ?_, Go.bounds_i64 hw⟩
      · exact hlt (.cell blk (off + 0)) (List.mem_append_left _ (MemPlace.mem_row.2 ⟨0, by omega, rfl⟩))
      · rw [Go.Deep.add_add, Go.WideShapes.add_plain] at hc
        simpa using hc
    obtain ⟨xs, hxl, hxs⟩ := pick_list len0 key
    refine ⟨xs, ⟨⟨_, _, by rw [hxl]⟩, fun i x hi => ?_⟩, by rw [hxl]; exact hbk⟩
    obtain ⟨g, o, rfl, hg, hc, hbd⟩ := hxs i x hi
    exact ⟨g, o, _, by rw [hxl], hg, hc, hbd⟩
end
end Go.Proofs.YtmmflekajbeamabGreatDoor

namespace Go.Proofs.YtmmflekajbeamabGreatDoor
open Go.ChangeShapes Go.WideShapes Go.ChangeAt Go.WideMaps Go.WideElems Go.RowKit

theorem types34 : Tryz.prog.cellTypes Tryz.prog.depth 25 = some (List.replicate 138 3) := by kernel_rfl
theorem c34 : Tryz.prog.cellsOf 25 = 138 := by kernel_rfl
set_option maxRecDepth 100000 in
/-- A state that came in: 138 numbers. -/
theorem agg_S {W : World} {b : Nat} {v : Value} (h : Value.okWide Tryz.prog W .any b 25 v) : ∃ z : List Int, v = .agg (S z) ∧ z.length = 138 := by
  unfold Value.okWide at h
  rw [Tryz.underlying25] at h
  obtain ⟨cs, rfl, hs, ts, hts, _, hc⟩ := h
  rw [c34] at hs
  obtain rfl := Option.some.inj (types34.symm.trans hts)
  have hi : ∀ (i : Nat) (hi : i < cs.toList.length), ∃ n, cs.toList[i] = .int .i64 n := fun i hi => by
    obtain ⟨u, hu, hk⟩ := hc i (cs.toList[i]) (by simp)
    rw [List.length_replicate, List.getElem?_replicate] at hu
    split at hu
    · obtain rfl := Option.some.inj hu
      obtain ⟨n, hn⟩ := okWide_int (r := .any) (base := b) (w := W) Tryz.underlying3 (show Value.okWide Tryz.prog W .any b 3 (cs.toList[i]) from by unfold Value.okWide; rw [Tryz.underlying3]; exact hk)
      exact ⟨n, hn⟩
    · cases hu
  have hz : ∃ z : List Int, cs.toList = z.map (Value.int .i64) := by
    have hm : ∀ x ∈ cs.toList, ∃ n, x = Value.int .i64 n := fun x hx => by
      obtain ⟨i, hlt, rfl⟩ := List.mem_iff_getElem.1 hx
      exact hi i hlt
    generalize cs.toList = l at hm
    induction l with
    | nil => exact ⟨[], rfl⟩
    | cons x l ih =>
      obtain ⟨n, rfl⟩ := hm x (by simp)
      obtain ⟨z, hz⟩ := ih (fun y hy => hm y (by simp [hy]))
      exact ⟨n :: z, by rw [hz]; rfl⟩
  obtain ⟨z, hz⟩ := hz
  refine ⟨z, ?_, ?_⟩
  · congr 1
    apply Array.toList_inj.1
    rw [hz]; simp [S]
  · have := congrArg List.length hz
    simp at this
    omega

end Go.Proofs.YtmmflekajbeamabGreatDoor

namespace Go.Proofs.YtmmflekajbeamabGreatDoor
open Go.ChangeShapes Go.WideShapes Go.ChangeAt Go.WideMaps Go.WideElems Go.RowKit

theorem trod_wf {H : Type} {enc : TypeId × Value → H} {W : World} {base : Nat} {sp : Nat → Bool} {held : Bool} {t : TypeId} {v : Value} {d : DataW H} {p : List MemPlace} {m m' : Nat}
    (hk : Tryz.prog.keyTypeAt m t = true) (hti : Tryz.prog.tiled m' t = true) (h : DataW.Trod enc Tryz.prog W base sp held t v d p) : ∀ n, Value.int .i64 n ∈ v.cells.toList → -9223372036854775808 ≤ n ∧ n ≤ 9223372036854775807 := by
  obtain ⟨fuel, hf⟩ := h
  obtain ⟨h1, _⟩ := keyLits_of_trod m t hk fuel _ _ hf
  have h2 := cells_of_lits m' t hti m _ _ h1
  have h3 := keyLits_wf h1
  intro n hn
  rw [h2] at hn
  obtain ⟨c, hc, he⟩ := List.mem_map.1 hn
  have hw := h3 c hc
  cases c with
  | int q k =>
    simp only [Lit.toCell, Value.int.injEq] at he
    obtain ⟨rfl, rfl⟩ := he
    exact Go.bounds_i64 hw
  | _ => simp [Lit.toCell] at he
theorem agg_Sb {H : Type} {enc : TypeId × Value → H} {W : World} {base : Nat} {sp : Nat → Bool} {held : Bool} {z : List Int} {d : DataW H} {p : List MemPlace} (h : DataW.Trod enc Tryz.prog W base sp held 25 (.agg (S z)) d p) : ∀ x ∈ z, -9223372036854775808 ≤ x ∧ x ≤ 9223372036854775807 := fun x hx =>
  trod_wf (m := 8) (m' := 8) (by kernel_rfl) (by kernel_rfl) h x (by
    show Value.int .i64 x ∈ (S z).toList
    unfold S
    simpa using hx)
end Go.Proofs.YtmmflekajbeamabGreatDoor
