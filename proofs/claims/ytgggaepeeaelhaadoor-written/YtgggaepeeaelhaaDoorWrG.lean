/-
  THE LAW Written: what the document's answer makes of its text.
-/
import Derived.Test.YtgggaepeeaelhaaDoorWrF
namespace Go.Proofs.YtgggaepeeaelhaaDoor
open Go

abbrev tx (p : ByteArray × Int) : List UInt8 := p.1.data.toList
theorem map1 {ps : List (ByteArray × Int)} {x : List UInt8} (h : ps.map tx = [x]) : ∃ a, ps = [a] ∧ tx a = x := by
  match ps, h with
  | [a], h => simp at h; exact ⟨a, rfl, h⟩
theorem map2 {ps : List (ByteArray × Int)} {x y : List UInt8} (h : ps.map tx = [x, y]) : ∃ a b, ps = [a, b] ∧ tx a = x ∧ tx b = y := by
  match ps, h with
  | [a, b], h => simp at h; exact ⟨a, b, rfl, h⟩
theorem map3 {ps : List (ByteArray × Int)} {x y z : List UInt8} (h : ps.map tx = [x, y, z]) : ∃ a b c, ps = [a, b, c] ∧ tx a = x ∧ tx b = y ∧ tx c = z := by
  match ps, h with
  | [a, b, c], h => simp at h; exact ⟨a, b, c, rfl, h⟩
theorem partR (c : UInt8) (hc : c = 97 ∨ c = 98 ∨ c = 99) (lb : List (List UInt8 × Int)) (ga : Bool) (t : ByteArray) (a : Nat) (ha : a < 8) (h : t.data.toList = rT a) : partD c lb ga t = a := by
  have hr : regB t.data.toList = true ∧ regV t.data.toList = a := by
    rw [h]
    unfold rT
    rw [dec_small a (by omega)]
    have := dig_toNat a (by omega)
    refine ⟨?_, ?_⟩
    · simp only [regB, decide_eq_true_eq, this]
      refine ⟨rfl, by omega, by omega⟩
    · show ((UInt8.ofNat (48 + a)).toNat : Int) - 48 = a
      rw [this]; omega
  rw [(part_reg c hc lb ga t hr.1).1, hr.2]
theorem numD_dec (most : Int) (lb : List (List UInt8 × Int)) (ga : Bool) (t : ByteArray) (k : Nat) (hk : k < 10000000000) (hm : (k : Int) ≤ most) (h : t.data.toList = dec k) : numD most lb ga t = k := by
  obtain ⟨h1, h2⟩ := dec_ok k hk
  unfold numD digOK
  rw [h, h2, h1, if_pos (by simpa using hm)]
theorem row_ix (o : Nat) (h : o < 12) : rowIx (rowNm o) = some o := by
  match o, h with
  | 0, _ | 1, _ | 2, _ | 3, _ | 4, _ | 5, _ | 6, _ | 7, _ | 8, _ | 9, _ | 10, _ | 11, _ => decide
theorem one_v (v : Nat) (hv : v < 4294967296) (e : Int) (lb : List (List UInt8 × Int)) (ga : Bool) (h : ByteArray × Int) (ps : List (ByteArray × Int)) (hh : tx h = rowNm (opN v)) (hp : ps.map tx = (its v).map (·.2)) : oneD h ps e lb ga = ((spW v : Int), 0, 0) := by
  have b0 : opN v < 12 := by unfold opN; omega
  have ba : aN v < 8 := by unfold aN; omega
  have bb : bN v < 8 := by unfold bN; omega
  have bc : cN v < 8 := by unfold cN; omega
  have bk : kN v < 4096 := by unfold kN; omega
  have n1 : ∀ (x : Nat), ¬ (x : Int) = -1 := fun x => by omega
  have n2 : ∀ (x : Nat), ¬ (x : Int) = -2 := fun x => by omega
  have u1 : unitD 97 = 1048576 := rfl
  have u2 : unitD 98 = 65536 := rfl
  have u3 : unitD 99 = 4096 := rfl
  have u4 : unitD 110 = 1 := rfl
  have u5 : unitD 118 = 1 := rfl
  have pn : ∀ t, partD 110 lb ga t = numD 4095 lb ga t := fun _ => rfl
  have pv : ∀ t, partD 118 lb ga t = numD 4294967295 lb ga t := fun _ => rfl
  unfold oneD
  rw [show h.1.data.toList = rowNm (opN v) from hh, row_ix _ b0]
  simp only
  have rrr : ∀ o : Nat, o ≠ 11 → fmPt o = [97, 98, 99] → fmOp o = o → ps.map tx = [rT (aN v), rT (bN v), rT (cN v)] → oneGo e lb ga (fmPt o) ps (w0D o) 0 = (((o * 16777216 + aN v * 1048576 + bN v * 65536 + cN v * 4096 : Nat) : Int), 0, 0) := fun o h11 hf ho hp => by
    obtain ⟨x, y, z, rfl, hx, hy, hz⟩ := map3 hp
    have p1 := partR 97 (by decide) lb ga x.1 (aN v) ba hx
    have p2 := partR 98 (by decide) lb ga y.1 (bN v) bb hy
    have p3 := partR 99 (by decide) lb ga z.1 (cN v) bc hz
    simp [hf, oneGo, p1, p2, p3, n1, n2, u1, u2, u3, w0D, h11, ho]
  have rrn : ∀ o : Nat, o ≠ 11 → fmPt o = [97, 98, 110] → fmOp o = o → ps.map tx = [rT (aN v), rT (bN v), dec (kN v)] → oneGo e lb ga (fmPt o) ps (w0D o) 0 = (((o * 16777216 + aN v * 1048576 + bN v * 65536 + kN v : Nat) : Int), 0, 0) := fun o h11 hf ho hp => by
    obtain ⟨x, y, z, rfl, hx, hy, hz⟩ := map3 hp
    have p1 := partR 97 (by decide) lb ga x.1 (aN v) ba hx
    have p2 := partR 98 (by decide) lb ga y.1 (bN v) bb hy
    have p3 := numD_dec 4095 lb ga z.1 (kN v) (by omega) (by omega) hz
    simp [hf, oneGo, p1, p2, p3, pn, n1, n2, u1, u2, u4, w0D, h11, ho]
  have hop : opN v = 0 ∨ opN v = 1 ∨ opN v = 2 ∨ opN v = 3 ∨ opN v = 4 ∨ opN v = 5 ∨ opN v = 6 ∨ opN v = 7 ∨ opN v = 8 ∨ opN v = 9 ∨ opN v = 10 ∨ opN v = 11 := by omega
  rcases hop with ho | ho | ho | ho | ho | ho | ho | ho | ho | ho | ho | ho
  · simp only [its, ho] at hp
    simp only [spW, ho]
    have : ps = [] := by simpa using hp
    subst this
    have hf : fmPt 0 = [] := rfl
    simp [hf, oneGo, w0D, fmOp]
  · simp only [its, ho, List.map_cons, List.map_nil] at hp
    simp only [spW, ho]
    obtain ⟨x, y, rfl, hx, hy⟩ := map2 hp
    have p1 := partR 97 (by decide) lb ga x.1 (aN v) ba hx
    have p2 := numD_dec 4095 lb ga y.1 (kN v) (by omega) (by omega) hy
    have hf : fmPt 1 = [97, 110] := rfl
    simp [hf, oneGo, p1, p2, pn, n1, n2, u1, u4, w0D, fmOp]
  · simp only [its, ho, List.map_cons, List.map_nil] at hp
    have hw : spW v = opN v * 16777216 + aN v * 1048576 + bN v * 65536 + cN v * 4096 := by simp only [spW, ho]
    rw [hw]
    exact rrr (opN v) (by omega) (by rw [ho]; rfl) (by rw [ho]; rfl) hp
  · simp only [its, ho, List.map_cons, List.map_nil] at hp
    have hw : spW v = opN v * 16777216 + aN v * 1048576 + bN v * 65536 + cN v * 4096 := by simp only [spW, ho]
    rw [hw]
    exact rrr (opN v) (by omega) (by rw [ho]; rfl) (by rw [ho]; rfl) hp
  · simp only [its, ho, List.map_cons, List.map_nil] at hp
    have hw : spW v = opN v * 16777216 + aN v * 1048576 + bN v * 65536 + cN v * 4096 := by simp only [spW, ho]
    rw [hw]
    exact rrr (opN v) (by omega) (by rw [ho]; rfl) (by rw [ho]; rfl) hp
  · simp only [its, ho, List.map_cons, List.map_nil] at hp
    have hw : spW v = opN v * 16777216 + aN v * 1048576 + bN v * 65536 + cN v * 4096 := by simp only [spW, ho]
    rw [hw]
    exact rrr (opN v) (by omega) (by rw [ho]; rfl) (by rw [ho]; rfl) hp
  · simp only [its, ho, List.map_cons, List.map_nil] at hp
    have hw : spW v = opN v * 16777216 + aN v * 1048576 + bN v * 65536 + kN v := by simp only [spW, ho]
    rw [hw]
    exact rrn (opN v) (by omega) (by rw [ho]; rfl) (by rw [ho]; rfl) hp
  · simp only [its, ho, List.map_cons, List.map_nil] at hp
    have hw : spW v = opN v * 16777216 + aN v * 1048576 + bN v * 65536 + kN v := by simp only [spW, ho]
    rw [hw]
    exact rrn (opN v) (by omega) (by rw [ho]; rfl) (by rw [ho]; rfl) hp
  · simp only [its, ho, List.map_cons, List.map_nil] at hp
    have hw : spW v = opN v * 16777216 + aN v * 1048576 + bN v * 65536 + kN v := by simp only [spW, ho]
    rw [hw]
    exact rrn (opN v) (by omega) (by rw [ho]; rfl) (by rw [ho]; rfl) hp
  · simp only [its, ho, List.map_cons, List.map_nil] at hp
    simp only [spW, ho]
    obtain ⟨y, rfl, hy⟩ := map1 hp
    have p2 := numD_dec 4095 lb ga y.1 (kN v) (by omega) (by omega) hy
    have hf : fmPt 9 = [110] := rfl
    simp [hf, oneGo, p2, pn, n1, n2, u4, w0D, fmOp]
  · simp only [its, ho, List.map_cons, List.map_nil] at hp
    simp only [spW, ho]
    obtain ⟨x, rfl, hx⟩ := map1 hp
    have p1 := partR 97 (by decide) lb ga x.1 (aN v) ba hx
    have hf : fmPt 10 = [97] := rfl
    simp [hf, oneGo, p1, n1, n2, u1, w0D, fmOp]
  · simp only [its, ho, List.map_cons, List.map_nil] at hp
    simp only [spW, ho]
    obtain ⟨y, rfl, hy⟩ := map1 hp
    have p2 := numD_dec 4294967295 lb ga y.1 v (by omega) (by omega) hy
    have hf : fmPt 11 = [118] := rfl
    simp [hf, oneGo, p2, pv, n1, n2, u5, w0D]
end Go.Proofs.YtgggaepeeaelhaaDoor
