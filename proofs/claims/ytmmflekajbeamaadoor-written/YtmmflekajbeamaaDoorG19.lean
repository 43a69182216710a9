/-
  The document's own answer: all lines, once (pass).
-/
import Derived.Test.YtmmflekajbeamaaDoorG18
namespace Go.Proofs.YtmmflekajbeamaaDoor
open Go.RowKit

theorem one_any (h : ByteArray × Int) (ps : List (ByteArray × Int)) (e : Int) (B : Nat) (vl : Value) (lb : List (List UInt8 × Int)) (ga : Bool) (v : Value) (w : World) (hsl : DSl w v (h :: ps)) (hl : LbAt w B vl lb) (hll : lb.length ≤ 5000) (hlb : ∀ p ∈ lb, 0 ≤ p.2 ∧ p.2 ≤ 128)
    (hts : ∀ p ∈ ps, Val p.1 ∧ p.1.size ≤ 2000) (hpl : ps.length ≤ 5000) :
    Calls Tryd.prog 117 #[v, .int .i64 e, vl, .bool ga] w (OnePost w (oneD h ps e lb ga)) := by
  cases hix : rowIx h.1.data.toList with
  | none => exact one_no h ps e vl lb ga v w hsl hix
  | some n => exact one_yes n (rowIx_some hix).1 h ps e B vl lb ga v w hsl hix hl hll hlb hts hpl

def nmD (t : ByteArray) : ByteArray := t.extract 0 (t.size - 1)
/-- A line's instruction: the words then, or what is wrong, where. -/
def insD (lb : List (List UInt8 × Int)) (ga : Bool) (i : Nat) (e : Int) (l : List (ByteArray × Int)) (ws : List Int) : List Int ⊕ (Int × Int × Int) :=
  match l with
  | [] => .inl ws
  | h :: ps => if (oneD h ps e lb ga).2.1 = 0 then (if 128 ≤ ws.length then .inr ((i : Int) + 1, h.2, 5) else .inl (ws ++ [(oneD h ps e lb ga).1])) else .inr ((i : Int) + 1, (oneD h ps e lb ga).2.2, (oneD h ps e lb ga).2.1)
/-- A line. -/
def lineD (lb : List (List UInt8 × Int)) (ga : Bool) (i : Nat) (e : Int) (l : List (ByteArray × Int)) (ws : List Int) (mk : List (List UInt8 × Int)) : (List Int × List (List UInt8 × Int)) ⊕ (Int × Int × Int) :=
  match l with
  | [] => .inl (ws, mk)
  | t :: ts =>
    if colB t.1.data.toList = true then
      (if nmI (nmD t.1) = false then .inr ((i : Int) + 1, t.2, 4)
       else if (mk.lookup (nmD t.1).data.toList).isSome = true then .inr ((i : Int) + 1, t.2, 6)
       else match insD lb ga i e ts ws with | .inl ws' => .inl (ws', mk ++ [((nmD t.1).data.toList, (ws.length : Int))]) | .inr f => .inr f)
    else match insD lb ga i e (t :: ts) ws with | .inl ws' => .inl (ws', mk) | .inr f => .inr f
def passD (lb : List (List UInt8 × Int)) (ga : Bool) : Nat → List (List (ByteArray × Int) × Int) → List Int → List (List UInt8 × Int) → (List Int × List (List UInt8 × Int)) ⊕ (Int × Int × Int)
  | _, [], ws, mk => .inl (ws, mk)
  | i, (l, e) :: Ls, ws, mk => match lineD lb ga i e l ws mk with | .inl (ws', mk') => passD lb ga (i + 1) Ls ws' mk' | .inr f => .inr f

theorem dtCs_at (l : List (ByteArray × Int)) (k : Nat) (p : ByteArray × Int) (h : l[k]? = some p) : (dtCs l)[k * 2]? = some (.string p.1) ∧ (dtCs l)[k * 2 + 1]? = some (.int .i64 p.2) := by
  induction l generalizing k with
  | nil => simp at h
  | cons a l ih =>
    have hlen : (dtC a).length = 2 := rfl
    show (dtC a ++ dtCs l)[k * 2]? = _ ∧ (dtC a ++ dtCs l)[k * 2 + 1]? = _
    match k, h with
    | 0, h =>
      simp at h
      subst h
      exact ⟨rfl, rfl⟩
    | k + 1, h =>
      simp at h
      rw [List.getElem?_append_right (by omega), List.getElem?_append_right (by omega), hlen, show (k + 1) * 2 - 2 = k * 2 by omega, show (k + 1) * 2 + 1 - 2 = k * 2 + 1 by omega]
      exact ih k h
/-- A row of tokens is a slice of tokens. -/
theorem dtoks_sl {w : World} {B : Nat} {v : Value} {l : List (ByteArray × Int)} (h : w.ownsRow B 159 2 v l.length (dtCs l)) : DSl w v l := by
  rcases h.2 with ⟨rfl, h0⟩ | ⟨g, cap, cur, rfl, hb, hg, hnc, _⟩
  · exact ⟨none, 0, by rw [h0], by omega, fun hne => absurd (List.length_eq_zero_iff.1 h0) hne⟩
  · refine ⟨some ⟨g, 0, none⟩, cap, rfl, hnc, fun _ => ⟨g, 0, rfl, fun i p hi => ?_⟩⟩
    have hil : i < l.length := (List.getElem?_eq_some_iff.1 hi).1
    obtain ⟨y0, y1⟩ := dtCs_at l i p hi
    rw [Nat.zero_add]
    exact ⟨(h.cellAt _ (by omega)).trans y0, (h.cellAt _ (by omega)).trans y1⟩
/-- The rest of a slice of tokens, behind the first. -/
def dtailV (g off n cap : Nat) : Value := .slice (some ⟨g, if cap = 1 then off else off + 2, none⟩) n (cap - 1)
set_option maxRecDepth 100000 in
theorem dslice1 (g off n cap : Nat) (w : World) : (Instr.slice 155 (.slice (some ⟨g, off, none⟩) (n + 1) cap) (some (.int .i64 1)) none none).run Tryd.prog w = .ok (dtailV g off n cap) w := by
  have hs : (sizeOf 159).run Tryd.prog w = .ok 2 w := by kernel_rfl
  have he : Tryd.prog.elem 155 = 159 := by kernel_rfl
  have hu : Tryd.prog.underlying 155 = some (.slice (Tryd.prog.elem 155)) := by rw [he]; exact Tryd.underlying155
  rw [run_slice_l (P := Tryd.prog) w _ _ _ _ hu .i64 1 (by decide) (by omega), he, hs]
  simp only [Result.andThen, sliced, dtailV]
  congr 1
  by_cases hc : cap = 1
  · rw [if_pos hc, if_pos (by simpa using hc)]
    rfl
  · rw [if_neg hc, if_neg (by simpa using hc)]
    rfl
theorem DSl.tail {w : World} {g off cap : Nat} {t : ByteArray × Int} {ts : List (ByteArray × Int)} (hcap : ts.length + 1 ≤ cap) (h : ∀ i p, (t :: ts)[i]? = some p → w.cell? ⟨g, off + i * 2, none⟩ = some (.string p.1) ∧ w.cell? ⟨g, off + i * 2 + 1, none⟩ = some (.int .i64 p.2)) :
    DSl w (dtailV g off ts.length cap) ts := by
  refine ⟨_, _, rfl, by omega, fun hne => ⟨g, _, rfl, fun i p hi => ?_⟩⟩
  have hl : 0 < ts.length := List.length_pos_iff.2 hne
  have := h (i + 1) p (by simpa using hi)
  rw [if_neg (by omega), show off + 2 + i * 2 = off + (i + 1) * 2 by omega]
  exact this
/-- A valid text's lines are whole characters. -/
theorem lines_val (s : ByteArray) (hs : s.size ≤ 2000) : ∀ (f p a : Nat) (ln col : Int), p ≤ s.size → s.size ≤ p + f → brkGo s f p ln col = none → Seg s a p → a ≤ p → ∀ x ∈ lnGo s (s.size - p) p a, Val x ∧ x.size ≤ 2000 := by
  have endd : ∀ a, Seg s a s.size → a ≤ s.size → ∀ x ∈ [s.extract a s.size], Val x ∧ x.size ≤ 2000 := by
    intro a h ha x hx
    rw [List.mem_singleton.1 hx]
    exact ⟨h.val (Nat.le_refl _), by rw [size_ext s a s.size (Nat.le_refl _)]; omega⟩
  intro f
  induction f with
  | zero =>
    intro p a ln col hp hf hv hseg ha
    have : p = s.size := by omega
    subst this
    rw [Nat.sub_self, lnGo]
    exact endd a hseg ha
  | succ f ih =>
    intro p a ln col hp hf hv hseg ha
    by_cases hlt : p < s.size
    · unfold brkGo at hv
      rw [if_pos hlt] at hv
      by_cases hw : wid s p = 0
      · rw [if_pos hw] at hv; cases hv
      rw [if_neg hw] at hv
      obtain ⟨_, _, hle, hasc, _, htl⟩ := wid_pos s p hlt hw
      by_cases h10 : bt s p = 10
      · rw [if_pos h10] at hv
        have hw1 : wid s p = 1 := (hasc (by omega)).2
        rw [hw1] at hv
        rw [show s.size - p = (s.size - (p + 1)) + 1 by omega, lnGo, if_pos hlt, if_pos h10]
        intro x hx
        rcases List.mem_cons.1 hx with hx | hx
        · rw [hx]
          exact ⟨hseg.val (by omega), by rw [size_ext s a p (by omega)]; omega⟩
        · exact ih (p + 1) (p + 1) _ _ (by omega) (by omega) hv (Seg.nil _) (Nat.le_refl _) x hx
      · rw [if_neg h10] at hv
        have hskip : lnGo s (s.size - p) p a = lnGo s (s.size - (p + wid s p)) (p + wid s p) a := by
          rw [show s.size - p = (s.size - (p + wid s p)) + wid s p by omega]
          refine lnGo_skip s (wid s p) _ p a hle (fun j h1 h2 => ?_)
          by_cases hj : j = p
          · rw [hj]; exact h10
          · have := htl (j - p) (by omega) (by omega)
            rw [show p + (j - p) = j by omega] at this
            omega
        rw [hskip]
        exact ih (p + wid s p) a _ _ hle (by omega) hv (Seg.snoc hseg hlt hw) (by omega)
    · have : p = s.size := by omega
      subst this
      rw [Nat.sub_self, lnGo]
      exact endd a hseg ha
end Go.Proofs.YtmmflekajbeamaaDoor
