/-
  What has been read stays in its bounds; lines of tokens as slices; the program's answer to a text as a plain function.
-/
import Derived.Test.YtgggaepeeaelhaaDoorAsN
namespace Go.Proofs.YtgggaepeeaelhaaDoor
open Go.RowKit Go.Maps Go.WideMaps

/-- The program's answer to a text: its words, or a fault's place and number. -/
def asmP (s : ByteArray) : List Int ⊕ (Int × Int × Int) :=
  if 2000 < s.size then .inr (0, 0, 2) else match cutGo s s.size 0 cs0 with
    | .inr (l, c) => .inr (l, c, 3)
    | .inl st => match rdAll ps0 (endLineS s s.size st).lines with
      | .inr f => .inr f
      | .inl ps => fillGo ps.labels ps.uses ps.words

structure PInv (ps : PS) (k : Nat) : Prop where
  wl : ps.words.length ≤ 128
  ul : ps.uses.length ≤ 3 * ps.words.length
  ll : ps.labels.length ≤ k
  us : ∀ u ∈ ps.uses, u.1 < ps.words.length ∧ u.2.text.size ≤ 2000
  wb : ∀ x ∈ ps.words, 0 ≤ x ∧ x ≤ 4294967296
  lb : ∀ p ∈ ps.labels, 0 ≤ p.2 ∧ p.2 ≤ 128
theorem PInv.zero : PInv ps0 0 := ⟨by decide, by decide, by decide, fun u hu => by simp [ps0] at hu, fun u hu => by simp [ps0] at hu, fun u hu => by simp [ps0] at hu⟩
theorem lookup_mem {l : List (List UInt8 × Int)} {k : List UInt8} {x : Int} (h : l.lookup k = some x) : (k, x) ∈ l := by
  induction l with
  | nil => cases h
  | cons p l ih =>
    obtain ⟨k', x'⟩ := p
    unfold List.lookup at h
    cases hq : k == k' with
    | true =>
      rw [hq] at h
      cases h
      rw [beq_iff_eq.1 hq]
      exact List.mem_cons_self
    | false =>
      rw [hq] at h
      exact List.mem_cons_of_mem _ (ih h)
theorem layGo_ok (n nw : Nat) : ∀ (ts : List Tok) (i : Nat) (s : LS), LOK n s → (∀ j t, ts[j]? = some t → fitK ((rowPt n).getD (i + j) 0) t.text = true) → LOK n (layGo n nw i ts s) := by
  intro ts
  induction ts with
  | nil => intro i s h _; exact h
  | cons t ts ih =>
    intro i s h hf
    refine ih (i + 1) _ (h.step (hf 0 t rfl)) (fun j u hj => ?_)
    rw [show i + 1 + j = i + (j + 1) by omega]
    exact hf (j + 1) u hj
theorem layP_u (n nw i : Nat) (t : Tok) (s : LS) : (layP n nw i t s).u = s.u ∨ (layP n nw i t s).u = s.u ++ [(nw, t)] := by
  unfold layP
  split
  · exact .inl rfl
  · split
    · exact .inl rfl
    · exact .inr rfl
theorem layGo_u (n nw : Nat) : ∀ (ts : List Tok) (i : Nat) (s : LS), (layGo n nw i ts s).u.length ≤ s.u.length + ts.length ∧ ∀ u ∈ (layGo n nw i ts s).u, u ∈ s.u ∨ (u.1 = nw ∧ u.2 ∈ ts) := by
  intro ts
  induction ts with
  | nil => intro i s; exact ⟨Nat.le_refl _, fun u hu => .inl hu⟩
  | cons t ts ih =>
    intro i s
    obtain ⟨h1, h2⟩ := ih (i + 1) (layP n nw i t s)
    rw [layGo]
    rcases layP_u n nw i t s with e | e
    · rw [e] at h1 h2
      refine ⟨by simp; omega, fun u hu => (h2 u hu).imp id (fun h => ⟨h.1, List.mem_cons_of_mem _ h.2⟩)⟩
    · rw [e] at h1 h2
      refine ⟨by simp at h1 ⊢; omega, fun u hu => ?_⟩
      rcases h2 u hu with h | h
      · rcases List.mem_append.1 h with h | h
        · exact .inl h
        · rw [List.mem_singleton.1 h]
          exact .inr ⟨rfl, List.mem_cons_self⟩
      · exact .inr ⟨h.1, List.mem_cons_of_mem _ h.2⟩
theorem wordOf_bd (n : Nat) (hn : n < 12) (s : LS) (h : LOK n s) : 0 ≤ wordOf n s ∧ wordOf n s ≤ 4294967296 := by
  obtain ⟨h1, h2, h3, h4⟩ := h
  have a0 := h1 0; have a1 := h1 1; have a2 := h1 2
  unfold wordOf
  by_cases h11 : n = 11
  · subst h11
    rw [if_pos (show rowOp 11 = -1 from rfl)]
    omega
  · have ho : rowOp n = n := rowOp_lt n (by omega)
    have hk := h3 h11
    rw [if_neg (by omega), ho]
    have : (n : Int) ≤ 10 := by omega
    omega
theorem rdIns_inv {ps ps' : PS} {k : Nat} (h : PInv ps k) (hd : Tok) (parts : List Tok) (hts : ∀ t ∈ parts, t.text.size ≤ 2000) (hr : rdIns ps hd parts = .inl ps') : PInv ps' k := by
  unfold rdIns at hr
  split at hr
  · cases hr
  · rename_i n hix
    split at hr
    · cases hr
    · rename_i hck
      split at hr
      · cases hr
      · rename_i hm
        cases hr
        obtain ⟨hn, _⟩ := rowIx_some hix
        obtain ⟨k1, k2⟩ := chk_none (rowPt n) parts 0 hd (Nat.zero_le _) hck
        simp only [Nat.zero_add] at k1
        have h3 := rowPt_len n
        obtain ⟨u1, u2⟩ := layGo_u n ps.words.length parts 0 (ls0 ps.uses)
        have hok := layGo_ok n ps.words.length parts 0 (ls0 ps.uses) (LOK.zero n _) k2
        have hl := h.wl
        have hu := h.ul
        have e1 : (ls0 ps.uses).u = ps.uses := rfl
        rw [e1] at u1 u2
        refine ⟨by simp [layS]; omega, by simp [layS]; omega, h.ll, fun u hu' => ?_, fun x hx => ?_, h.lb⟩
        · have hlen : (layS n parts ps).words.length = ps.words.length + 1 := by simp [layS]
          rw [hlen]
          rcases u2 u hu' with h4 | ⟨h4, h5⟩
          · have := h.us u h4
            omega
          · exact ⟨by omega, hts _ h5⟩
        · rcases List.mem_append.1 hx with h4 | h4
          · exact h.wb x h4
          · rw [List.mem_singleton.1 h4]
            exact wordOf_bd n hn _ hok
theorem rdLine_inv {ps ps' : PS} {k : Nat} (h : PInv ps k) (line : List Tok) (hts : ∀ t ∈ line, t.text.size ≤ 2000) (hr : rdLine ps line = .inl ps') : PInv ps' (k + 1) := by
  have up : PInv ps (k + 1) := ⟨h.wl, h.ul, Nat.le_succ_of_le h.ll, h.us, h.wb, h.lb⟩
  have rest : ∀ (q : PS) (l : List Tok), PInv q (k + 1) → (∀ t ∈ l, t.text.size ≤ 2000) → rdRest q l = .inl ps' → PInv ps' (k + 1) := by
    intro q l hq hl hr
    cases l with
    | nil => cases hr; exact hq
    | cons t ts => exact rdIns_inv hq t ts (fun u hu => hl u (List.mem_cons_of_mem _ hu)) hr
  cases line with
  | nil => cases hr; exact up
  | cons t ts =>
    rw [rdLine] at hr
    split at hr
    · split at hr
      · cases hr
      · refine rest { ps with labels := ps.labels ++ [((labN t).data.toList, (ps.words.length : Int))] } ts ⟨h.wl, h.ul, by show (ps.labels ++ [_]).length ≤ _; rw [List.length_append, List.length_singleton]; exact Nat.succ_le_succ h.ll, h.us, h.wb, fun p hp => ?_⟩ (fun u hu => hts u (List.mem_cons_of_mem _ hu)) hr
        rcases List.mem_append.1 hp with hp | hp
        · exact h.lb p hp
        · rw [List.mem_singleton.1 hp]
          have := h.wl
          simp only
          omega
    · exact rest ps (t :: ts) up hts hr

/-- A row of tokens is a slice of tokens. -/
theorem toks_sl {w : World} {B : Nat} {v : Value} {l : List Tok} (h : ToksAt w B v l) : SlAt w v l ∧ ∀ a m c, v = .slice (some a) m c → B ≤ a.block ∧ a.block < w.heap.size := by
  unfold ToksAt at h
  have hlt := row_lt h
  rcases h.2 with ⟨rfl, h0⟩ | ⟨g, cap, cur, rfl, hb, hg, hnc, _⟩
  · refine ⟨⟨none, 0, by rw [h0], by omega, fun hne => absurd (List.length_eq_zero_iff.1 h0) hne⟩, fun a m c e => by cases e⟩
  · refine ⟨⟨some ⟨g, 0, none⟩, cap, rfl, hnc, fun _ => ⟨g, 0, rfl, fun i t hi => ?_⟩⟩, fun a m c e => by cases e; exact hlt g rfl⟩
    have hil : i < l.length := (List.getElem?_eq_some_iff.1 hi).1
    have key : ∀ (l : List Tok) (k : Nat), l[k]? = some t → ∀ j, j < 5 → (tokCs l)[k * 5 + j]? = (tokC t)[j]? := by
      intro l
      induction l with
      | nil => intro k hk; simp at hk
      | cons a l ih =>
        intro k hk j hj
        have hlen : (tokC a).length = 5 := rfl
        show (tokC a ++ tokCs l)[k * 5 + j]? = _
        match k, hk with
        | 0, hk =>
          simp at hk
          subst hk
          rw [List.getElem?_append_left (by omega)]
          congr 1
          omega
        | k + 1, hk =>
          simp at hk
          rw [List.getElem?_append_right (by omega), hlen, show (k + 1) * 5 + j - 5 = k * 5 + j by omega]
          exact ih k hk j hj
    have kk := key l i hi
    have c : ∀ j, j < 5 → w.cell? ⟨g, 0 + i * 5 + j, none⟩ = (tokC t)[j]? := fun j hj => by
      rw [Nat.zero_add, h.cellAt _ (by omega)]
      exact kk j hj
    exact ⟨c 0 (by decide), c 1 (by decide), c 2 (by decide), c 3 (by decide), c 4 (by decide)⟩
theorem toks_keep {w w' : World} {B : Nat} {v : Value} {l : List Tok} (h : ToksAt w B v l) (hb : Below w.heap.size w w') : ToksAt w' B v l := ownsRow_keep h (fun g hg => hb.block g (row_lt h g hg).2)
end Go.Proofs.YtgggaepeeaelhaaDoor
