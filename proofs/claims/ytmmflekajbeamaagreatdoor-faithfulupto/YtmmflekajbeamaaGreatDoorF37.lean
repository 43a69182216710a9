/-
  A script that came in: its steps as they lie in memory.
  A script of steps that came in, as it lies in memory.
  A state that came in is 138 numbers.
  The numbers of a struct that came in are numbers of 64 bits.
-/
import Derived.Test.YtmmflekajbeamaaGreatDoorF17
import Derived.Test.YtmmflekajbeamaaGreatDoorF36
import Derived.Deep.Slices
import Derived.MapViews
import Derived.DeepKeys2
namespace Go.Proofs.YtmmflekajbeamaaGreatDoor
open Go.ChangeShapes Go.WideShapes Go.ChangeAt Go.WideMaps Go.WideElems Go.RowKit

section
variable {H : Type} {enc : TypeId × Value → H} {w : World} {base : Nat} {sp : Nat → Bool} {held : Bool}
theorem c_int : Tryz.prog.cellsOf 3 = 1 := by kernel_rfl
theorem c_str : Tryz.prog.cellsOf 9 = 1 := by kernel_rfl
theorem one_at {cs : List Value} {i : Nat} {v : Value} (h : (cs.drop i).take 1 = [v]) : cs[i]? = some v := by
  have : ((cs.drop i).take 1)[0]? = some v := by rw [h]; rfl
  rw [List.getElem?_take, if_pos (by decide), List.getElem?_drop] at this
  simpa using this
theorem int_at {fuel : Nat} {cs : List Value} {i : Nat} {x : DataW H × List MemPlace} (h : DataW.trod enc Tryz.prog w base sp held fuel 3 ((cs.drop i).take (Tryz.prog.cellsOf 3)) = some x) : ∃ n, cs[i]? = some (.int .i64 n) ∧ -9223372036854775808 ≤ n ∧ n ≤ 9223372036854775807 := by
  rw [c_int] at h
  obtain ⟨n, h1, _, hw⟩ := DataW.trod_int Tryz.underlying3 h
  exact ⟨n, one_at h1, Go.bounds_i64 hw⟩
theorem str_at {fuel : Nat} {cs : List Value} {i : Nat} {x : DataW H × List MemPlace} (h : DataW.trod enc Tryz.prog w base sp held fuel 9 ((cs.drop i).take (Tryz.prog.cellsOf 9)) = some x) : ∃ s : ByteArray, cs[i]? = some (.string s) ∧ x.1 = .lit (.string s.data.toList) := by
  rw [c_str] at h
  obtain ⟨s, h1, h2, _⟩ := DataW.trod_string Tryz.underlying9 h
  exact ⟨s, one_at h1, by rw [h2]⟩
theorem bulk_pos (d : DataW H) : 1 ≤ Rows.uptoBulk d := by
  cases d with
  | lit l => cases l <;> simp [Rows.uptoBulk]
  | _ => simp [Rows.uptoBulk]
theorem bulk_len : ∀ l : List (DataW H), l.length ≤ Rows.uptoBulkAll l
  | [] => Nat.zero_le _
  | x :: l => by
    have h1 := bulk_pos x
    have h2 := bulk_len l
    simp only [Rows.uptoBulkAll, List.length_cons]
    omega
end
end Go.Proofs.YtmmflekajbeamaaGreatDoor

namespace Go.Proofs.YtmmflekajbeamaaGreatDoor
open Go.ChangeShapes Go.WideShapes Go.ChangeAt Go.WideMaps Go.WideElems Go.RowKit

section
variable {H : Type} {enc : TypeId × Value → H} {w : World} {base : Nat} {sp : Nat → Bool} {held : Bool}
theorem c_Sp : Tryz.prog.cellsOf 36 = 4 := by kernel_rfl
theorem bulk_in {d : DataW H} : ∀ {l : List (DataW H)}, d ∈ l → Rows.uptoBulk d ≤ Rows.uptoBulkAll l
  | [], h => by cases h
  | x :: l, h => by
    simp only [Rows.uptoBulkAll]
    rcases List.mem_cons.1 h with rfl | h
    · omega
    · have := bulk_in h
      omega
theorem sp_shape {cs : List Value} {kd a b : Int} {s : ByteArray} (hl : cs.length = 4) (e0 : cs[0]? = some (.int .i64 kd)) (e1 : cs[1]? = some (.int .i64 a)) (e2 : cs[2]? = some (.int .i64 b)) (e3 : cs[3]? = some (.string s)) : cs = (spC kd a b s).toList := by
  match cs, hl with
  | [v0, v1, v2, v3], _ =>
    simp only [List.getElem?_cons_zero, List.getElem?_cons_succ, Option.some.injEq] at e0 e1 e2 e3
    subst e0 e1 e2 e3
    rfl
/-- One step that came in. -/
theorem sp_open {fuel : Nat} {cs : List Value} {x : DataW H × List MemPlace} (h : DataW.trod enc Tryz.prog w base sp held fuel 36 cs = some x) (hbk : Rows.uptoBulk x.1 ≤ 1048576) : SpOk cs := by
  obtain ⟨xs, m, _, hx, hl, hxl, hf⟩ := DataW.trod_struct Tryz.underlying36 h
  rw [c_Sp] at hl
  have hxl' : xs.length = 4 := hxl
  have g0 := hf 0 _ rfl
  have g1 := hf 1 _ rfl
  have g2 := hf 2 _ rfl
  have g3 := hf 3 _ rfl
  match xs, hxl' with
  | [y0, y1, y2, y3], _ =>
    obtain ⟨kd, e0, b0⟩ := int_at g0
    obtain ⟨a, e1, b1⟩ := int_at g1
    obtain ⟨b, e2, b2⟩ := int_at g2
    obtain ⟨s, e3, y3e⟩ := str_at g3
    have h2 : s.size ≤ 1000000000 := by
      rw [hx] at hbk
      simp [Rows.uptoBulk, Rows.uptoBulkAll, y3e] at hbk
      have : s.size = s.data.size := rfl
      omega
    exact ⟨kd, a, b, s, sp_shape hl e0 e1 e2 e3, ⟨b0, b1, b2, by omega⟩, h2⟩
set_option maxRecDepth 100000 in
/-- A whole script that came in. -/
theorem steps_open {fuel : Nat} {v : Value} {d : DataW H} {p : List MemPlace} (h : DataW.trod enc Tryz.prog w base sp held fuel 29 v.cells.toList = some (d, p)) (hv : ∃ a len cap, v = .slice a len cap) (hlt : ∀ x ∈ p, x.block < w.heap.size)  (hb8 : Rows.uptoBulk d ≤ 1048576) : ∃ n, SsAt v n w ∧ n ≤ Rows.uptoBulk d := by
  obtain ⟨a0, len0, cap0, rfl⟩ := hv
  rcases Go.Deep.open_slice Tryz.underlying29 h with ⟨hcs, _⟩ | ⟨a, len, cap, m, n, D, Pl, hcs, hb, hl, hm, hmm, hx, hel⟩
  · simp [Value.cells] at hcs
    obtain ⟨rfl, rfl, rfl⟩ := hcs
    exact ⟨0, ⟨⟨none, 0, rfl⟩, fun i hi => absurd hi (Nat.not_lt_zero _)⟩, Nat.zero_le _⟩
  · simp [Value.cells] at hcs
    obtain ⟨rfl, rfl, rfl⟩ := hcs
    simp only [Prod.mk.injEq] at hx
    obtain ⟨hd, hp⟩ := hx
    rw [hp] at hlt
    have hb9 := hb8
    rw [hd] at hb9
    have hbk : len0 ≤ Rows.uptoBulk d := by
      have h1 := bulk_len ((List.range len0).map D)
      rw [List.length_map, List.length_range] at h1
      rw [hd]
      simp only [Rows.uptoBulk]
      omega
    clear hd hp h
    rw [c_Sp] at hel hlt
    have hbi : ∀ i, i < len0 → Rows.uptoBulk (D i) ≤ 1048576 := fun i hi => by
      have h1 := bulk_in (List.mem_map.2 ⟨i, List.mem_range.2 hi, rfl⟩ : D i ∈ (List.range len0).map D)
      have h2 := hb9
      simp only [Rows.uptoBulk] at h2
      omega
    have hlm : len0 ≤ m := by rw [hmm]; split <;> omega
    refine ⟨len0, ⟨⟨_, _, rfl⟩, fun i hi => ?_⟩, hbk⟩
    · obtain ⟨cs', h1, h2⟩ := hel i (by omega)
      obtain ⟨_, hcl, hcell⟩ := World.cells?_some h1
      have hok := sp_open h2 (hbi i hi)
      obtain ⟨cz, z1, z2⟩ := hel 0 (by omega)
      obtain ⟨_, hzl, hzc⟩ := World.cells?_some z1
      have hc0 := hzc 0 (by omega)
      rw [List.getElem?_eq_getElem (by omega)] at hc0
      obtain ⟨blk, off, spot⟩ := a
      have hspot : spot = none := by simpa [Addr.add] using World.cell?_spot hc0
      subst hspot
      refine ⟨blk, off, _, rfl, ?_, cs', hok, fun j x hj => ?_⟩
      · have hm0 : 0 < m := by omega
        exact hlt (.cell blk (off + 0)) (List.mem_append_left _ (MemPlace.mem_row.2 ⟨0, by omega, rfl⟩))
      · have hj4 : j < 4 := by rw [← hcl]; exact (List.getElem?_eq_some_iff.1 hj).1
        have := hcell j hj4
        rw [hj, Go.Deep.add_add, Go.WideShapes.add_plain] at this
        rw [Nat.add_assoc]
        exact this
end
end Go.Proofs.YtmmflekajbeamaaGreatDoor

namespace Go.Proofs.YtmmflekajbeamaaGreatDoor
open Go.ChangeShapes Go.WideShapes Go.ChangeAt Go.WideMaps Go.WideElems Go.RowKit

theorem types34 : Tryz.prog.cellTypes Tryz.prog.depth 28 = some (List.replicate 138 3) := by kernel_rfl
theorem c34 : Tryz.prog.cellsOf 28 = 138 := by kernel_rfl
set_option maxRecDepth 100000 in
/-- A state that came in: 138 numbers. -/
theorem agg_S {W : World} {b : Nat} {v : Value} (h : Value.okWide Tryz.prog W .any b 28 v) : ∃ z : List Int, v = .agg (S z) ∧ z.length = 138 := by
  unfold Value.okWide at h
  rw [Tryz.underlying28] at h
  obtain ⟨cs, rfl, hs, ts, hts, _, hc⟩ := h
  rw [c34] at hs
  obtain rfl := Option.some.inj (types34.symm.trans hts)
  have hi : ∀ (i : Nat) (hi : i < cs.toList.length), ∃ n, cs.toList[i] = .int .i64 n := fun i hi => by
    obtain ⟨u, hu, hk⟩ := hc i (cs.toList[i]) (by simp)
    rw [List.length_replicate, List.getElem?_replicate] at hu
    split at hu
    · obtain rfl := Option.some.inj hu
      obtain ⟨n, hn⟩ := okWide_int (r := .any) (base := b) (w := W) Tryz.underlying3 (show Value.okWide Tryz.prog W .any b 3 (cs.toList[i]) from by unfold Value.okWide; rw [Tryz.underlying3]; exact hk)
      exact ⟨n, hn⟩
    · cases hu
  have hz : ∃ z : List Int, cs.toList = z.map (Value.int .i64) := by
    have hm : ∀ x ∈ cs.toList, ∃ n, x = Value.int .i64 n := fun x hx => by
      obtain ⟨i, hlt, rfl⟩ := List.mem_iff_getElem.1 hx
      exact hi i hlt
    generalize cs.toList = l at hm
    induction l with
    | nil => exact ⟨[], rfl⟩
    | cons x l ih =>
      obtain ⟨n, rfl⟩ := hm x (by simp)
      obtain ⟨z, hz⟩ := ih (fun y hy => hm y (by simp [hy]))
      exact ⟨n :: z, by rw [hz]; rfl⟩
  obtain ⟨z, hz⟩ := hz
  refine ⟨z, ?_, ?_⟩
  · congr 1
    apply Array.toList_inj.1
    rw [hz]; simp [S]
  · have := congrArg List.length hz
    simp at this
    omega

end Go.Proofs.YtmmflekajbeamaaGreatDoor

namespace Go.Proofs.YtmmflekajbeamaaGreatDoor
open Go.ChangeShapes Go.WideShapes Go.ChangeAt Go.WideMaps Go.WideElems Go.RowKit

theorem trod_wf {H : Type} {enc : TypeId × Value → H} {W : World} {base : Nat} {sp : Nat → Bool} {held : Bool} {t : TypeId} {v : Value} {d : DataW H} {p : List MemPlace} {m m' : Nat}
    (hk : Tryz.prog.keyTypeAt m t = true) (hti : Tryz.prog.tiled m' t = true) (h : DataW.Trod enc Tryz.prog W base sp held t v d p) : ∀ n, Value.int .i64 n ∈ v.cells.toList → -9223372036854775808 ≤ n ∧ n ≤ 9223372036854775807 := by
  obtain ⟨fuel, hf⟩ := h
  obtain ⟨h1, _⟩ := keyLits_of_trod m t hk fuel _ _ hf
  have h2 := cells_of_lits m' t hti m _ _ h1
  have h3 := keyLits_wf h1
  intro n hn
  rw [h2] at hn
  obtain ⟨c, hc, he⟩ := List.mem_map.1 hn
  have hw := h3 c hc
  cases c with
  | int q k =>
    simp only [Lit.toCell, Value.int.injEq] at he
    obtain ⟨rfl, rfl⟩ := he
    exact Go.bounds_i64 hw
  | _ => simp [Lit.toCell] at he
theorem agg_Sb {H : Type} {enc : TypeId × Value → H} {W : World} {base : Nat} {sp : Nat → Bool} {held : Bool} {z : List Int} {d : DataW H} {p : List MemPlace} (h : DataW.Trod enc Tryz.prog W base sp held 28 (.agg (S z)) d p) : ∀ x ∈ z, -9223372036854775808 ≤ x ∧ x ≤ 9223372036854775807 := fun x hx =>
  trod_wf (m := 8) (m' := 8) (by kernel_rfl) (by kernel_rfl) h x (by
    show Value.int .i64 x ∈ (S z).toList
    unfold S
    simpa using hx)
end Go.Proofs.YtmmflekajbeamaaGreatDoor
