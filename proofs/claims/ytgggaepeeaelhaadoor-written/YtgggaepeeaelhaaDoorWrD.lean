/-
  THE LAW Written: lines and tokens of a text that is laid together of pieces: plain mathematics.
-/
import Derived.Test.YtgggaepeeaelhaaDoorMaF
import Derived.Test.YtgggaepeeaelhaaDoorWrC
namespace Go.Proofs.YtgggaepeeaelhaaDoor
open Go

theorem lines_dgo (s : ByteArray) (hv : brkGo s s.size 0 1 1 = none) : (linesD s).map toksD = Dgo s s.size 0 false d0 := by
  obtain ⟨st, hc⟩ := (cut_brk s s.size 0 cs0).2 hv
  obtain ⟨Ls, l1, l2, _⟩ := sim s s.size 0 cs0 false d0 st (Nat.zero_le _) (by omega) (rel0 s 0 cs0 rfl rfl (by decide) rfl) hv hc
  have e : (endLineS s s.size st).lines = Ls := by rw [l1]; rfl
  have := (cut_lines s st hv hc).1
  rw [e, l2] at this
  exact this.symm

/-- What lies behind a place of a text. -/
def Sfx (s : ByteArray) (p : Nat) (l : List UInt8) : Prop := s.data.toList.drop p = l ∧ p ≤ s.size
theorem Sfx.len {s : ByteArray} {p : Nat} {l : List UInt8} (h : Sfx s p l) : p + l.length = s.size := by
  rw [← h.1, List.length_drop, Array.length_toList]
  have := h.2
  have e : s.data.size = s.size := rfl
  omega
theorem Sfx.app {s : ByteArray} {p : Nat} {x l : List UInt8} (h : Sfx s p (x ++ l)) : Sfx s (p + x.length) l := by
  have hl := h.len
  rw [List.length_append] at hl
  refine ⟨?_, by omega⟩
  rw [← List.drop_drop, h.1, List.drop_left]
theorem Sfx.get {s : ByteArray} {p : Nat} {l : List UInt8} (h : Sfx s p l) (j : Nat) (u : UInt8) (hu : l[j]? = some u) : bt s (p + j) = u.toNat := by
  have hj : j < l.length := (List.getElem?_eq_some_iff.1 hu).1
  have hl := h.len
  obtain ⟨v, h1, h2⟩ := getElem?_bt s (p + j) (by omega)
  rw [← h.1, List.getElem?_drop, h1] at hu
  cases hu
  exact h2.symm
theorem Sfx.ext {s : ByteArray} {p : Nat} {x l : List UInt8} (h : Sfx s p (x ++ l)) : s.extract p (p + x.length) = bya x := by
  apply ByteArray.ext
  apply Array.toList_inj.1
  have : (s.extract p (p + x.length)).data.toList = (s.data.toList.drop p).take x.length := by
    rw [ByteArray.data_extract, Array.toList_extract, List.extract_eq_take_drop]
    congr 1
    omega
  rw [this, h.1, List.take_left]
  simp [bya]
/-- The characters that these texts have. -/
def Ch (c : List UInt8) : Prop := (∃ b : UInt8, c = [b] ∧ b.toNat < 128) ∨ c = [195, 188] ∨ c = [226, 128, 162]
def hd (c : List UInt8) : Nat := (c.headD 0).toNat
theorem ch_at {s : ByteArray} {p : Nat} {c l : List UInt8} (hc : Ch c) (h : Sfx s p (c ++ l)) : wid s p = c.length ∧ bt s p = hd c ∧ p < s.size := by
  have hl := h.len
  rw [List.length_append] at hl
  rcases hc with ⟨b, rfl, hb⟩ | rfl | rfl
  · have g := h.get 0 b rfl
    rw [Nat.add_zero] at g
    refine ⟨?_, g, by simp at hl; omega⟩
    unfold wid
    rw [if_pos (by omega)]
    rfl
  · have g0 := h.get 0 195 rfl
    have g1 := h.get 1 188 rfl
    rw [Nat.add_zero] at g0
    have v0 : bt s p = 195 := g0
    have v1 : bt s (p + 1) = 188 := g1
    simp at hl
    refine ⟨?_, g0, by omega⟩
    unfold wid widN
    rw [v0, if_neg (by decide), if_pos (by decide), if_neg (by omega)]
    simp [widC, v1]
  · have g0 := h.get 0 226 rfl
    have g1 := h.get 1 128 rfl
    have g2 := h.get 2 162 rfl
    rw [Nat.add_zero] at g0
    have v0 : bt s p = 226 := g0
    have v1 : bt s (p + 1) = 128 := g1
    have v2 : bt s (p + 2) = 162 := g2
    simp at hl
    refine ⟨?_, g0, by omega⟩
    unfold wid widN
    rw [v0, if_neg (by decide), if_neg (by decide), if_pos (by decide), if_neg (by omega)]
    simp [widC, v1, v2]
theorem ch_pos {c : List UInt8} (hc : Ch c) : 1 ≤ c.length := by rcases hc with ⟨b, rfl, _⟩ | rfl | rfl <;> simp

/-- No byte from here on begins no character. -/
def Brk (s : ByteArray) (p : Nat) : Prop := ∀ f ln col, brkGo s f p ln col = none
theorem brk_ch {s : ByteArray} {p : Nat} {c l : List UInt8} (hc : Ch c) (h : Sfx s p (c ++ l)) (hn : Brk s (p + c.length)) : Brk s p := by
  intro f ln col
  obtain ⟨h1, h2, h3⟩ := ch_at hc h
  cases f with
  | zero => rfl
  | succ f =>
    have hp := ch_pos hc
    unfold brkGo
    rw [if_pos h3, h1, if_neg (by omega)]
    split
    · exact hn _ _ _
    · exact hn _ _ _
theorem brk_end {s : ByteArray} {p : Nat} (h : Sfx s p []) : Brk s p := by
  intro f ln col
  have := h.len
  cases f with
  | zero => rfl
  | succ f =>
    unfold brkGo
    rw [if_neg (by simp at this; omega)]
theorem brk_all {s : ByteArray} {l : List UInt8} : ∀ (cs : List (List UInt8)) (p : Nat), (∀ c ∈ cs, Ch c) → Sfx s p (cs.flatten ++ l) → Brk s (p + cs.flatten.length) → Brk s p := by
  intro cs
  induction cs with
  | nil => intro p _ _ h; simpa using h
  | cons c cs ih =>
    intro p hc h hn
    rw [List.flatten_cons, List.append_assoc] at h
    refine brk_ch (hc c List.mem_cons_self) h (ih _ (fun d hd => hc d (List.mem_cons_of_mem _ hd)) h.app ?_)
    rw [List.flatten_cons, List.length_append, ← Nat.add_assoc] at hn
    exact hn

/-- A line's tokens are these. -/
def G (x : List (List UInt8)) (r : List (ByteArray × Int) × Int) : Prop := r.1.map (fun p => p.1.data.toList) = x ∧ ∀ p ∈ r.1, 1 ≤ p.2
def GG : List (List (List UInt8)) → List (List (ByteArray × Int) × Int) → Prop
  | [], [] => True
  | x :: xs, r :: rs => G x r ∧ GG xs rs
  | _, _ => False
/-- From here on the lines' tokens are these, the tokens of this line so far given. -/
def OKL (s : ByteArray) (p : Nat) (stop neg : Bool) (xs : List (List UInt8)) (Q : List (List (List UInt8))) : Prop :=
  ∀ (d : DS) (f : Nat), G xs (fin d) → 1 ≤ d.col → (neg = true → d.frm < 0) → s.size ≤ p + f → GG Q (Dgo s f p stop d)
theorem okl_end {s : ByteArray} {p : Nat} (stop neg : Bool) (xs : List (List UInt8)) (h : Sfx s p []) : OKL s p stop neg xs [xs] := by
  intro d f hg _ _ _
  have := h.len
  have e : Dgo s f p stop d = [fin d] := by
    cases f with
    | zero => rfl
    | succ f => unfold Dgo; rw [if_neg (by simp at this; omega)]
  rw [e]
  exact ⟨hg, trivial⟩
theorem okl_step {s : ByteArray} {p f : Nat} {c l : List UInt8} (hc : Ch c) (h : Sfx s p (c ++ l)) (stop : Bool) (d : DS) (hf : s.size ≤ p + f) :
    ∃ g, f = g + 1 ∧ s.size ≤ p + c.length + g ∧ Dgo s f p stop d = (if hd c = 10 then fin d :: Dgo s g (p + 1) false d0 else if stop = true ∨ hd c = 59 then Dgo s g (p + c.length) true d else Dgo s g (p + c.length) false (stepD s p d)) := by
  obtain ⟨h1, h2, h3⟩ := ch_at hc h
  cases f with
  | zero => omega
  | succ g =>
    have := ch_pos hc
    refine ⟨g, rfl, by omega, ?_⟩
    rw [Dgo, if_pos h3, h1, h2]
theorem ch_b (b : UInt8) (h : b.toNat < 128) : Ch [b] := .inl ⟨b, rfl, h⟩
theorem okl_nl {s : ByteArray} {p : Nat} {l : List UInt8} (stop neg : Bool) (xs : List (List UInt8)) {Q : List (List (List UInt8))} (h : Sfx s p (10 :: l)) (hn : OKL s (p + 1) false true [] Q) : OKL s p stop neg xs (xs :: Q) := by
  intro d f hg hcol hneg hf
  obtain ⟨g, rfl, hg2, he⟩ := okl_step (ch_b 10 (by decide)) (show Sfx s p ([10] ++ l) from h) stop d hf
  rw [he, if_pos (by decide)]
  exact ⟨hg, hn d0 g ⟨rfl, fun p hp => by cases hp⟩ (by decide) (fun _ => by decide) hg2⟩
theorem okl_skip {s : ByteArray} {p : Nat} {c l : List UInt8} (neg : Bool) (xs : List (List UInt8)) {Q : List (List (List UInt8))} (hc : Ch c) (h10 : hd c ≠ 10) (h : Sfx s p (c ++ l)) (hn : OKL s (p + c.length) true false xs Q) : OKL s p true neg xs Q := by
  intro d f hg hcol hneg hf
  obtain ⟨g, rfl, hg2, he⟩ := okl_step hc h true d hf
  rw [he, if_neg h10, if_pos (.inl rfl)]
  exact hn d g hg hcol (fun h => by cases h) hg2
theorem okl_semi {s : ByteArray} {p : Nat} {l : List UInt8} (neg : Bool) (xs : List (List UInt8)) {Q : List (List (List UInt8))} (h : Sfx s p (59 :: l)) (hn : OKL s (p + 1) true false xs Q) : OKL s p false neg xs Q := by
  intro d f hg hcol hneg hf
  obtain ⟨g, rfl, hg2, he⟩ := okl_step (ch_b 59 (by decide)) (show Sfx s p ([59] ++ l) from h) false d hf
  rw [he, if_neg (by decide), if_pos (.inr (by decide))]
  exact hn d g hg hcol (fun h => by cases h) hg2
theorem okl_blank {s : ByteArray} {p : Nat} {b : UInt8} {l : List UInt8} (neg : Bool) (xs : List (List UInt8)) {Q : List (List (List UInt8))} (hb : b = 32 ∨ b = 9) (h : Sfx s p (b :: l)) (hn : OKL s (p + 1) false true xs Q) : OKL s p false neg xs Q := by
  intro d f hg hcol hneg hf
  have hlt : b.toNat < 128 := by rcases hb with rfl | rfl <;> decide
  have hbt : bt s p = 32 ∨ bt s p = 9 := by
    have := h.get 0 b rfl
    rw [Nat.add_zero] at this
    rw [this]
    rcases hb with rfl | rfl
    · exact .inl rfl
    · exact .inr rfl
  obtain ⟨g, rfl, hg2, he⟩ := okl_step (ch_b b hlt) (show Sfx s p ([b] ++ l) from h) false d hf
  rw [he, if_neg (by rcases hb with rfl | rfl <;> decide), if_neg (by rcases hb with rfl | rfl <;> decide)]
  have e : stepD s p d = { d with frm := -1, col := d.col + 1 } := by unfold stepD; rw [if_pos hbt]
  rw [e]
  exact hn _ g hg (by show 1 ≤ d.col + 1; omega) (fun _ => by show (-1 : Int) < 0; omega) hg2
end Go.Proofs.YtgggaepeeaelhaaDoor
