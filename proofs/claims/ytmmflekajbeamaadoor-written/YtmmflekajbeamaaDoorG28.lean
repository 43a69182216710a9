/-
  THE LAW Written: lines and tokens of a text that is laid together of pieces: plain mathematics.
  THE LAW Written: tokens, items and lines of its text.
  THE LAW Written: its whole text: lines and tokens.
-/
import Derived.Test.YtmmflekajbeamaaDoorG26
import Derived.Test.YtmmflekajbeamaaDoorG27
namespace Go.Proofs.YtmmflekajbeamaaDoor
open Go

theorem lines_dgo (s : ByteArray) (hv : brkGo s s.size 0 1 1 = none) : (linesD s).map toksD = Dgo s s.size 0 false d0 := by
  obtain ⟨st, hc⟩ := (cut_brk s s.size 0 cs0).2 hv
  obtain ⟨Ls, l1, l2, _⟩ := sim s s.size 0 cs0 false d0 st (Nat.zero_le _) (by omega) (rel0 s 0 cs0 rfl rfl (by decide) rfl) hv hc
  have e : (endLineS s s.size st).lines = Ls := by rw [l1]; rfl
  have := (cut_lines s st hv hc).1
  rw [e, l2] at this
  exact this.symm

/-- What lies behind a place of a text. -/
def Sfx (s : ByteArray) (p : Nat) (l : List UInt8) : Prop := s.data.toList.drop p = l ∧ p ≤ s.size
theorem Sfx.len {s : ByteArray} {p : Nat} {l : List UInt8} (h : Sfx s p l) : p + l.length = s.size := by
  rw [← h.1, List.length_drop, Array.length_toList]
  have := h.2
  have e : s.data.size = s.size := rfl
  omega
theorem Sfx.app {s : ByteArray} {p : Nat} {x l : List UInt8} (h : Sfx s p (x ++ l)) : Sfx s (p + x.length) l := by
  have hl := h.len
  rw [List.length_append] at hl
  refine ⟨?_, by omega⟩
  rw [← List.drop_drop, h.1, List.drop_left]
theorem Sfx.get {s : ByteArray} {p : Nat} {l : List UInt8} (h : Sfx s p l) (j : Nat) (u : UInt8) (hu : l[j]? = some u) : bt s (p + j) = u.toNat := by
  have hj : j < l.length := (List.getElem?_eq_some_iff.1 hu).1
  have hl := h.len
  obtain ⟨v, h1, h2⟩ := getElem?_bt s (p + j) (by omega)
  rw [← h.1, List.getElem?_drop, h1] at hu
  cases hu
  exact h2.symm
theorem Sfx.ext {s : ByteArray} {p : Nat} {x l : List UInt8} (h : Sfx s p (x ++ l)) : s.extract p (p + x.length) = bya x := by
  apply ByteArray.ext
  apply Array.toList_inj.1
  have : (s.extract p (p + x.length)).data.toList = (s.data.toList.drop p).take x.length := by
    rw [ByteArray.data_extract, Array.toList_extract, List.extract_eq_take_drop]
    congr 1
    omega
  rw [this, h.1, List.take_left]
  simp [bya]
/-- The characters that these texts have. -/
def Ch (c : List UInt8) : Prop := (∃ b : UInt8, c = [b] ∧ b.toNat < 128) ∨ c = [195, 188] ∨ c = [226, 128, 162]
def hd (c : List UInt8) : Nat := (c.headD 0).toNat
theorem ch_at {s : ByteArray} {p : Nat} {c l : List UInt8} (hc : Ch c) (h : Sfx s p (c ++ l)) : wid s p = c.length ∧ bt s p = hd c ∧ p < s.size := by
  have hl := h.len
  rw [List.length_append] at hl
  rcases hc with ⟨b, rfl, hb⟩ | rfl | rfl
  · have g := h.get 0 b rfl
    rw [Nat.add_zero] at g
    refine ⟨?_, g, by simp at hl; omega⟩
    unfold wid
    rw [if_pos (by omega)]
    rfl
  · have g0 := h.get 0 195 rfl
    have g1 := h.get 1 188 rfl
    rw [Nat.add_zero] at g0
    have v0 : bt s p = 195 := g0
    have v1 : bt s (p + 1) = 188 := g1
    simp at hl
    refine ⟨?_, g0, by omega⟩
    unfold wid widN
    rw [v0, if_neg (by decide), if_pos (by decide), if_neg (by omega)]
    simp [widC, v1]
  · have g0 := h.get 0 226 rfl
    have g1 := h.get 1 128 rfl
    have g2 := h.get 2 162 rfl
    rw [Nat.add_zero] at g0
    have v0 : bt s p = 226 := g0
    have v1 : bt s (p + 1) = 128 := g1
    have v2 : bt s (p + 2) = 162 := g2
    simp at hl
    refine ⟨?_, g0, by omega⟩
    unfold wid widN
    rw [v0, if_neg (by decide), if_neg (by decide), if_pos (by decide), if_neg (by omega)]
    simp [widC, v1, v2]
theorem ch_pos {c : List UInt8} (hc : Ch c) : 1 ≤ c.length := by rcases hc with ⟨b, rfl, _⟩ | rfl | rfl <;> simp

/-- No byte from here on begins no character. -/
def Brk (s : ByteArray) (p : Nat) : Prop := ∀ f ln col, brkGo s f p ln col = none
theorem brk_ch {s : ByteArray} {p : Nat} {c l : List UInt8} (hc : Ch c) (h : Sfx s p (c ++ l)) (hn : Brk s (p + c.length)) : Brk s p := by
  intro f ln col
  obtain ⟨h1, h2, h3⟩ := ch_at hc h
  cases f with
  | zero => rfl
  | succ f =>
    have hp := ch_pos hc
    unfold brkGo
    rw [if_pos h3, h1, if_neg (by omega)]
    split
    · exact hn _ _ _
    · exact hn _ _ _
theorem brk_end {s : ByteArray} {p : Nat} (h : Sfx s p []) : Brk s p := by
  intro f ln col
  have := h.len
  cases f with
  | zero => rfl
  | succ f =>
    unfold brkGo
    rw [if_neg (by simp at this; omega)]
theorem brk_all {s : ByteArray} {l : List UInt8} : ∀ (cs : List (List UInt8)) (p : Nat), (∀ c ∈ cs, Ch c) → Sfx s p (cs.flatten ++ l) → Brk s (p + cs.flatten.length) → Brk s p := by
  intro cs
  induction cs with
  | nil => intro p _ _ h; simpa using h
  | cons c cs ih =>
    intro p hc h hn
    rw [List.flatten_cons, List.append_assoc] at h
    refine brk_ch (hc c List.mem_cons_self) h (ih _ (fun d hd => hc d (List.mem_cons_of_mem _ hd)) h.app ?_)
    rw [List.flatten_cons, List.length_append, ← Nat.add_assoc] at hn
    exact hn

/-- A line's tokens are these. -/
def G (x : List (List UInt8)) (r : List (ByteArray × Int) × Int) : Prop := r.1.map (fun p => p.1.data.toList) = x ∧ ∀ p ∈ r.1, 1 ≤ p.2
def GG : List (List (List UInt8)) → List (List (ByteArray × Int) × Int) → Prop
  | [], [] => True
  | x :: xs, r :: rs => G x r ∧ GG xs rs
  | _, _ => False
/-- From here on the lines' tokens are these, the tokens of this line so far given. -/
def OKL (s : ByteArray) (p : Nat) (stop neg : Bool) (xs : List (List UInt8)) (Q : List (List (List UInt8))) : Prop :=
  ∀ (d : DS) (f : Nat), G xs (fin d) → 1 ≤ d.col → (neg = true → d.frm < 0) → s.size ≤ p + f → GG Q (Dgo s f p stop d)
theorem okl_end {s : ByteArray} {p : Nat} (stop neg : Bool) (xs : List (List UInt8)) (h : Sfx s p []) : OKL s p stop neg xs [xs] := by
  intro d f hg _ _ _
  have := h.len
  have e : Dgo s f p stop d = [fin d] := by
    cases f with
    | zero => rfl
    | succ f => unfold Dgo; rw [if_neg (by simp at this; omega)]
  rw [e]
  exact ⟨hg, trivial⟩
theorem okl_step {s : ByteArray} {p f : Nat} {c l : List UInt8} (hc : Ch c) (h : Sfx s p (c ++ l)) (stop : Bool) (d : DS) (hf : s.size ≤ p + f) :
    ∃ g, f = g + 1 ∧ s.size ≤ p + c.length + g ∧ Dgo s f p stop d = (if hd c = 10 then fin d :: Dgo s g (p + 1) false d0 else if stop = true ∨ hd c = 59 then Dgo s g (p + c.length) true d else Dgo s g (p + c.length) false (stepD s p d)) := by
  obtain ⟨h1, h2, h3⟩ := ch_at hc h
  cases f with
  | zero => omega
  | succ g =>
    have := ch_pos hc
    refine ⟨g, rfl, by omega, ?_⟩
    rw [Dgo, if_pos h3, h1, h2]
theorem ch_b (b : UInt8) (h : b.toNat < 128) : Ch [b] := .inl ⟨b, rfl, h⟩
theorem okl_nl {s : ByteArray} {p : Nat} {l : List UInt8} (stop neg : Bool) (xs : List (List UInt8)) {Q : List (List (List UInt8))} (h : Sfx s p (10 :: l)) (hn : OKL s (p + 1) false true [] Q) : OKL s p stop neg xs (xs :: Q) := by
  intro d f hg hcol hneg hf
  obtain ⟨g, rfl, hg2, he⟩ := okl_step (ch_b 10 (by decide)) (show Sfx s p ([10] ++ l) from h) stop d hf
  rw [he, if_pos (by decide)]
  exact ⟨hg, hn d0 g ⟨rfl, fun p hp => by cases hp⟩ (by decide) (fun _ => by decide) hg2⟩
theorem okl_skip {s : ByteArray} {p : Nat} {c l : List UInt8} (neg : Bool) (xs : List (List UInt8)) {Q : List (List (List UInt8))} (hc : Ch c) (h10 : hd c ≠ 10) (h : Sfx s p (c ++ l)) (hn : OKL s (p + c.length) true false xs Q) : OKL s p true neg xs Q := by
  intro d f hg hcol hneg hf
  obtain ⟨g, rfl, hg2, he⟩ := okl_step hc h true d hf
  rw [he, if_neg h10, if_pos (.inl rfl)]
  exact hn d g hg hcol (fun h => by cases h) hg2
theorem okl_semi {s : ByteArray} {p : Nat} {l : List UInt8} (neg : Bool) (xs : List (List UInt8)) {Q : List (List (List UInt8))} (h : Sfx s p (59 :: l)) (hn : OKL s (p + 1) true false xs Q) : OKL s p false neg xs Q := by
  intro d f hg hcol hneg hf
  obtain ⟨g, rfl, hg2, he⟩ := okl_step (ch_b 59 (by decide)) (show Sfx s p ([59] ++ l) from h) false d hf
  rw [he, if_neg (by decide), if_pos (.inr (by decide))]
  exact hn d g hg hcol (fun h => by cases h) hg2
theorem okl_blank {s : ByteArray} {p : Nat} {b : UInt8} {l : List UInt8} (neg : Bool) (xs : List (List UInt8)) {Q : List (List (List UInt8))} (hb : b = 32 ∨ b = 9) (h : Sfx s p (b :: l)) (hn : OKL s (p + 1) false true xs Q) : OKL s p false neg xs Q := by
  intro d f hg hcol hneg hf
  have hlt : b.toNat < 128 := by rcases hb with rfl | rfl <;> decide
  have hbt : bt s p = 32 ∨ bt s p = 9 := by
    have := h.get 0 b rfl
    rw [Nat.add_zero] at this
    rw [this]
    rcases hb with rfl | rfl
    · exact .inl rfl
    · exact .inr rfl
  obtain ⟨g, rfl, hg2, he⟩ := okl_step (ch_b b hlt) (show Sfx s p ([b] ++ l) from h) false d hf
  rw [he, if_neg (by rcases hb with rfl | rfl <;> decide), if_neg (by rcases hb with rfl | rfl <;> decide)]
  have e : stepD s p d = { d with frm := -1, col := d.col + 1 } := by unfold stepD; rw [if_pos hbt]
  rw [e]
  exact hn _ g hg (by show 1 ≤ d.col + 1; omega) (fun _ => by show (-1 : Int) < 0; omega) hg2
end Go.Proofs.YtmmflekajbeamaaDoor

namespace Go.Proofs.YtmmflekajbeamaaDoor
open Go

/-- A character that may stand in a token. -/
def Tc (c : List UInt8) : Prop := Ch c ∧ hd c ≠ 9 ∧ hd c ≠ 10 ∧ hd c ≠ 32 ∧ hd c ≠ 59
theorem tok_go (s : ByteArray) (p0 : Nat) (L : List (ByteArray × Int)) (k : Int) (l : List UInt8) : ∀ (cs : List (List UInt8)) (x : List UInt8) (d : DS) (f : Nat), (∀ c ∈ cs, Tc c) → d.frm = (p0 : Int) → d.l = L ++ [(bya x, k)] → Sfx s p0 (x ++ (cs.flatten ++ l)) → s.size ≤ p0 + x.length + f →
    ∃ d' f', d'.l = L ++ [(bya (x ++ cs.flatten), k)] ∧ d.col ≤ d'.col ∧ s.size ≤ p0 + (x ++ cs.flatten).length + f' ∧ Dgo s f (p0 + x.length) false d = Dgo s f' (p0 + (x ++ cs.flatten).length) false d' := by
  intro cs
  induction cs with
  | nil =>
    intro x d f _ _ hl _ hf
    refine ⟨d, f, ?_, Int.le_refl _, ?_, ?_⟩
    · rw [hl, List.flatten_nil, List.append_nil]
    · rw [List.flatten_nil, List.append_nil]; exact hf
    · rw [List.flatten_nil, List.append_nil]
  | cons c cs ih =>
    intro x d f hc hfrm hl h hf
    obtain ⟨hch, h9, h10, h32, h59⟩ := hc c List.mem_cons_self
    have h' : Sfx s p0 ((x ++ c) ++ (cs.flatten ++ l)) := by
      rw [List.flatten_cons] at h
      simpa [List.append_assoc] using h
    have hs : Sfx s (p0 + x.length) (c ++ (cs.flatten ++ l)) := by
      rw [List.append_assoc] at h'
      exact h'.app
    obtain ⟨g, rfl, hg2, he⟩ := okl_step hch hs false d hf
    obtain ⟨w1, w2, _⟩ := ch_at hch hs
    rw [he, if_neg h10, if_neg (fun e => by rcases e with e | e; cases e; exact h59 e)]
    have e : stepD s (p0 + x.length) d = ⟨L ++ [(bya (x ++ c), k)], d.col + 1, d.col + 1, d.frm⟩ := by
      unfold stepD
      rw [w2, w1, if_neg (fun e => by rcases e with e | e; exact h32 e; exact h9 e), if_neg (by omega), hl, setLast_snoc, hfrm]
      have := h'.ext
      rw [List.length_append, ← Nat.add_assoc] at this
      rw [Int.toNat_natCast, this]
    rw [e]
    obtain ⟨d', f', r1, r2, r3, r4⟩ := ih (x ++ c) ⟨L ++ [(bya (x ++ c), k)], d.col + 1, d.col + 1, d.frm⟩ g (fun c' h' => hc c' (List.mem_cons_of_mem _ h')) hfrm rfl h' (by rw [List.length_append]; omega)
    rw [List.append_assoc] at r1 r3 r4
    refine ⟨d', f', ?_, ?_, ?_, ?_⟩
    · rw [r1, List.flatten_cons]
    · have : d.col + 1 ≤ d'.col := r2
      omega
    · rw [List.flatten_cons]; exact r3
    · rw [List.flatten_cons, ← r4, List.length_append, Nat.add_assoc]
theorem okl_tok {s : ByteArray} {p : Nat} {l : List UInt8} (c : List UInt8) (cs : List (List UInt8)) (xs : List (List UInt8)) {Q : List (List (List UInt8))} (hc : ∀ x ∈ c :: cs, Tc x) (h : Sfx s p (c ++ (cs.flatten ++ l))) (hn : OKL s (p + (c ++ cs.flatten).length) false false (xs ++ [c ++ cs.flatten]) Q) : OKL s p false true xs Q := by
  intro d f hg hcol hneg hf
  have hfr := hneg rfl
  obtain ⟨hch, h9, h10, h32, h59⟩ := hc c List.mem_cons_self
  obtain ⟨g, rfl, hg2, he⟩ := okl_step hch h false d hf
  obtain ⟨w1, w2, _⟩ := ch_at hch h
  rw [he, if_neg h10, if_neg (fun e => by rcases e with e | e; cases e; exact h59 e)]
  have e : stepD s p d = ⟨d.l ++ [(bya c, d.col)], d.col + 1, d.col + 1, p⟩ := by
    unfold stepD
    rw [w2, w1, if_neg (fun e => by rcases e with e | e; exact h32 e; exact h9 e), if_pos hfr, h.ext]
  rw [e]
  obtain ⟨d', f', r1, r2, r3, r4⟩ := tok_go s p d.l d.col l cs c ⟨d.l ++ [(bya c, d.col)], d.col + 1, d.col + 1, p⟩ g (fun c' h' => hc c' (List.mem_cons_of_mem _ h')) rfl rfl h hg2
  rw [r4]
  have r2' : d.col + 1 ≤ d'.col := r2
  refine hn d' f' ⟨?_, ?_⟩ (by omega) (fun h => by cases h) r3
  · show d'.l.map _ = _
    rw [r1, List.map_append, List.map_singleton, bya_list]
    rw [show d.l.map (fun p => p.1.data.toList) = xs from hg.1]
  · intro q hq
    have hq' : q ∈ d'.l := hq
    rw [r1] at hq'
    rcases List.mem_append.1 hq' with hq' | hq'
    · exact hg.2 q hq'
    · rw [List.mem_singleton.1 hq']; exact hcol
theorem okl_weak {s : ByteArray} {p : Nat} {stop : Bool} {xs : List (List UInt8)} {Q : List (List (List UInt8))} (neg : Bool) (h : OKL s p stop false xs Q) : OKL s p stop neg xs Q :=
  fun d f hg hcol _ hf => h d f hg hcol (fun h => by cases h) hf

def sepOK (x : List UInt8) : Prop := x ≠ [] ∧ ∀ b ∈ x, b = 32 ∨ b = 9
def plain (t : List UInt8) : Prop := t ≠ [] ∧ ∀ b ∈ t, Tc [b]
theorem okl_seps {s : ByteArray} {l : List UInt8} {xs : List (List UInt8)} {Q : List (List (List UInt8))} : ∀ (x : List UInt8) (p : Nat) (neg : Bool), sepOK x → Sfx s p (x ++ l) → OKL s (p + x.length) false true xs Q → OKL s p false neg xs Q := by
  intro x
  induction x with
  | nil => intro p neg h; exact absurd rfl h.1
  | cons b x ih =>
    intro p neg hx h hn
    have hn' : OKL s (p + 1 + x.length) false true xs Q := by
      rw [List.length_cons, show p + (x.length + 1) = p + 1 + x.length by omega] at hn
      exact hn
    have h1 : Sfx s (p + 1) (x ++ l) := (show Sfx s p ([b] ++ (x ++ l)) from h).app
    refine okl_blank neg xs (hx.2 b List.mem_cons_self) h ?_
    cases x with
    | nil => exact hn'
    | cons b' x => exact ih (p + 1) true ⟨by simp, fun y hy => hx.2 y (List.mem_cons_of_mem _ hy)⟩ h1 hn'
theorem flat_one (t : List UInt8) : (t.map fun b => [b]).flatten = t := by
  induction t with
  | nil => rfl
  | cons a t ih => simp [ih]
theorem okl_ptok {s : ByteArray} {p : Nat} {l : List UInt8} (t : List UInt8) (xs : List (List UInt8)) {Q : List (List (List UInt8))} (ht : plain t) (h : Sfx s p (t ++ l)) (hn : OKL s (p + t.length) false false (xs ++ [t]) Q) : OKL s p false true xs Q := by
  cases t with
  | nil => exact absurd rfl ht.1
  | cons b t =>
    refine okl_tok (l := l) [b] (t.map fun b => [b]) xs (fun x hx => ?_) ?_ ?_
    · rcases List.mem_cons.1 hx with rfl | hx
      · exact ht.2 b List.mem_cons_self
      · obtain ⟨y, hy, rfl⟩ := List.mem_map.1 hx
        exact ht.2 y (List.mem_cons_of_mem _ hy)
    · rw [flat_one]; exact h
    · rw [flat_one]; exact hn
def flatI (its : List (List UInt8 × List UInt8)) : List UInt8 := its.flatMap fun p => p.1 ++ p.2
theorem okl_items {s : ByteArray} {l : List UInt8} {Q : List (List (List UInt8))} : ∀ (its : List (List UInt8 × List UInt8)) (p : Nat) (neg : Bool) (xs : List (List UInt8)), (∀ i ∈ its, sepOK i.1 ∧ plain i.2) → Sfx s p (flatI its ++ l) → OKL s (p + (flatI its).length) false false (xs ++ its.map (·.2)) Q → OKL s p false neg xs Q := by
  intro its
  induction its with
  | nil =>
    intro p neg xs _ _ hn
    rw [List.map_nil, List.append_nil] at hn
    exact okl_weak neg hn
  | cons i its ih =>
    intro p neg xs hi h hn
    obtain ⟨h1, h2⟩ := hi i List.mem_cons_self
    have e : flatI (i :: its) = i.1 ++ (i.2 ++ flatI its) := by simp [flatI]
    rw [e, List.append_assoc, List.append_assoc] at h
    refine okl_seps i.1 p neg h1 h (okl_ptok i.2 xs h2 h.app ?_)
    refine ih _ false _ (fun j hj => hi j (List.mem_cons_of_mem _ hj)) h.app.app ?_
    rw [e, List.length_append, List.length_append] at hn
    rw [show p + i.1.length + i.2.length + (flatI its).length = p + (i.1.length + (i.2.length + (flatI its).length)) by omega]
    simpa [List.append_assoc] using hn
theorem okl_skips {s : ByteArray} {l : List UInt8} {xs : List (List UInt8)} {Q : List (List (List UInt8))} : ∀ (x : List UInt8) (p : Nat), (∀ b ∈ x, b.toNat < 128 ∧ b.toNat ≠ 10) → Sfx s p (x ++ l) → OKL s (p + x.length) true false xs Q → OKL s p true false xs Q := by
  intro x
  induction x with
  | nil => intro p _ _ hn; exact hn
  | cons b x ih =>
    intro p hx h hn
    have h1 : Sfx s (p + 1) (x ++ l) := (show Sfx s p ([b] ++ (x ++ l)) from h).app
    refine okl_skip (c := [b]) false xs (ch_b b (hx b List.mem_cons_self).1) (hx b List.mem_cons_self).2 (show Sfx s p ([b] ++ (x ++ l)) from h) ?_
    refine ih (p + 1) (fun y hy => hx y (List.mem_cons_of_mem _ hy)) h1 ?_
    rw [List.length_cons, show p + (x.length + 1) = p + 1 + x.length by omega] at hn
    exact hn
end Go.Proofs.YtmmflekajbeamaaDoor

namespace Go.Proofs.YtmmflekajbeamaaDoor
open Go

theorem tc_b {b : UInt8} (h : b.toNat < 128) (h9 : b.toNat ≠ 9) (h10 : b.toNat ≠ 10) (h32 : b.toNat ≠ 32) (h59 : b.toNat ≠ 59) : Tc [b] := ⟨ch_b b h, h9, h10, h32, h59⟩
theorem plain_dec (n : Nat) (h : n < 10000000000) : plain (dec n) := by
  obtain ⟨_, h2, _, h4⟩ := decF_ok 10 n (by simpa using h) (by omega)
  refine ⟨fun e => by unfold dec at e; rw [e] at h2; simp at h2, fun b hb => ?_⟩
  have := h4 b hb
  simp only [digC, decide_eq_true_eq] at this
  exact tc_b (by omega) (by omega) (by omega) (by omega) (by omega)
theorem plain_rT (n : Nat) (h : n < 10000000000) : plain (rT n) := by
  refine ⟨by simp [rT], fun b hb => ?_⟩
  rcases List.mem_cons.1 hb with rfl | hb
  · exact tc_b (by decide) (by decide) (by decide) (by decide) (by decide)
  · exact (plain_dec n h).2 b hb
theorem plain_nm (o : Nat) (h : o < 12) : plain (rowNm o) := by
  have hz : ∀ x : List UInt8, x ≠ [] → (x.all fun b => decide (97 ≤ b.toNat ∧ b.toNat ≤ 122)) = true → plain x := fun x h1 h2 => ⟨h1, fun b hb => by
    have := List.all_eq_true.1 h2 b hb
    simp only [decide_eq_true_eq] at this
    exact tc_b (by omega) (by omega) (by omega) (by omega) (by omega)⟩
  match o, h with
  | 0, _ | 1, _ | 2, _ | 3, _ | 4, _ | 5, _ | 6, _ | 7, _ | 8, _ | 9, _ | 10, _ | 11, _ => exact hz _ (by simp [rowNm]) (by decide)
def allI : List (List UInt8 × List UInt8) → Prop
  | [] => True
  | i :: r => (sepOK i.1 ∧ plain i.2) ∧ allI r
theorem allI_mem : ∀ (l : List (List UInt8 × List UInt8)), allI l → ∀ i ∈ l, sepOK i.1 ∧ plain i.2 := by
  intro l
  induction l with
  | nil => intro _ i hi; cases hi
  | cons a l ih =>
    intro h i hi
    rcases List.mem_cons.1 hi with rfl | hi
    · exact h.1
    · exact ih h.2 i hi
theorem sep1 : sepOK [32] := ⟨by simp, fun b hb => by simp at hb; exact .inl hb⟩
theorem sep2 : sepOK [9] := ⟨by simp, fun b hb => by simp at hb; exact .inr hb⟩
theorem sep3 : sepOK [32, 32] := ⟨by simp, fun b hb => by simp at hb; exact .inl hb⟩
theorem its_ok (v : Nat) (hv : v < 4294967296) : allI (([9], rowNm (opN v)) :: its v) := by
  have b0 : opN v < 12 := by unfold opN; omega
  have A := plain_rT (aN v) (by unfold aN; omega)
  have B := plain_rT (bN v) (by unfold bN; omega)
  have C := plain_rT (cN v) (by unfold cN; omega)
  have K := plain_dec (kN v) (by unfold kN; omega)
  have V := plain_dec v (by omega)
  refine ⟨⟨sep2, plain_nm _ b0⟩, ?_⟩
  unfold its
  split
  · exact trivial
  · exact ⟨⟨sep1, A⟩, ⟨sep3, K⟩, trivial⟩
  iterate 4
    · exact ⟨⟨sep1, A⟩, ⟨sep2, B⟩, ⟨sep1, C⟩, trivial⟩
  iterate 3
    · exact ⟨⟨sep1, A⟩, ⟨sep2, B⟩, ⟨sep3, K⟩, trivial⟩
  · exact ⟨⟨sep3, K⟩, trivial⟩
  · exact ⟨⟨sep1, A⟩, trivial⟩
  · exact ⟨⟨sep1, V⟩, trivial⟩
theorem flat_ascii (l : List (List UInt8 × List UInt8)) (h : allI l) : ∀ b ∈ flatI l, b.toNat < 128 ∧ b.toNat ≠ 10 := by
  intro b hb
  obtain ⟨i, hi, hb⟩ := List.mem_flatMap.1 hb
  obtain ⟨h1, h2⟩ := allI_mem l h i hi
  rcases List.mem_append.1 hb with hb | hb
  · rcases h1.2 b hb with rfl | rfl <;> decide
  · obtain ⟨hc, _, h10, _⟩ := h2.2 b hb
    rcases hc with ⟨x, e, hx⟩ | e | e
    · cases e; exact ⟨hx, h10⟩
    · cases e
    · cases e
theorem flat_line (v : Nat) : flatI (([9], rowNm (opN v)) :: its v) = [9] ++ spT v := by simp [flatI, spT]
theorem spT_ascii (v : Nat) (hv : v < 4294967296) : ∀ b ∈ spT v, b.toNat < 128 ∧ b.toNat ≠ 10 := fun b hb =>
  flat_ascii _ (its_ok v hv) b (by rw [flat_line]; exact List.mem_append_right _ hb)

def LAB : List UInt8 := [195, 188, 95, 49, 58]
def NAM : List UInt8 := [195, 188, 95, 49]
def labT (b : Bool) : List UInt8 := if b then LAB else []
def labQ (b : Bool) : List (List UInt8) := if b then [LAB] else []
def toks (v : Nat) : List (List UInt8) := rowNm (opN v) :: (its v).map (·.2)
def lnT (b : Bool) (v : Nat) : List UInt8 := labT b ++ (([9] ++ spT v) ++ ([32] ++ ([59] ++ (spT v ++ ([10] ++ [10])))))
def bodyT (pl : Nat) : Nat → List Nat → List UInt8
  | _, [] => []
  | i, v :: vs => lnT (i == pl) v ++ bodyT pl (i + 1) vs
def bodyQ (pl : Nat) : Nat → List Nat → List (List (List UInt8))
  | _, [] => []
  | i, v :: vs => (labQ (i == pl) ++ toks v) :: [] :: bodyQ pl (i + 1) vs
def tlT (b : Bool) (x : List UInt8) : List UInt8 := labT b ++ ([32] ++ ([106, 117, 109, 112] ++ ([32] ++ (NAM ++ x))))
def txt (pl : Nat) (vs : List Nat) (x : List UInt8) : List UInt8 := [59] ++ ([32] ++ ([226, 128, 162] ++ ([10] ++ (bodyT pl 0 vs ++ tlT (pl == vs.length) x))))

theorem tc_u : Tc [195, 188] := ⟨.inr (.inl rfl), by decide, by decide, by decide, by decide⟩
theorem tc_l (b : UInt8) (h : b = 95 ∨ b = 49 ∨ b = 58 ∨ b = 120) : Tc [b] := by
  rcases h with rfl | rfl | rfl | rfl <;> exact tc_b (by decide) (by decide) (by decide) (by decide) (by decide)
theorem okl_lab {s : ByteArray} {p : Nat} {l : List UInt8} (b : Bool) {Q : List (List (List UInt8))} (h : Sfx s p (labT b ++ l)) (hn : OKL s (p + (labT b).length) false false (labQ b) Q) : OKL s p false true [] Q := by
  cases b with
  | false => exact okl_weak true hn
  | true =>
    refine okl_tok (l := l) [195, 188] [[95], [49], [58]] [] (fun x hx => ?_) h hn
    simp only [List.mem_cons, List.not_mem_nil, or_false] at hx
    rcases hx with rfl | rfl | rfl | rfl
    · exact tc_u
    · exact tc_l _ (by decide)
    · exact tc_l _ (by decide)
    · exact tc_l _ (by decide)
theorem okl_line {s : ByteArray} {p : Nat} {l : List UInt8} (b : Bool) (v : Nat) (hv : v < 4294967296) {Q : List (List (List UInt8))} (h : Sfx s p (lnT b v ++ l)) (hn : OKL s (p + (lnT b v).length) false true [] Q) : OKL s p false true [] ((labQ b ++ toks v) :: [] :: Q) := by
  unfold lnT at h hn
  simp only [List.append_assoc] at h
  refine okl_lab b h ?_
  have h1 := h.app
  have hfl : Sfx s (p + (labT b).length) (flatI (([9], rowNm (opN v)) :: its v) ++ ([32] ++ ([59] ++ (spT v ++ ([10] ++ ([10] ++ l)))))) := by
    rw [flat_line, List.append_assoc]
    exact h1
  refine okl_items _ _ false _ (allI_mem _ (its_ok v hv)) hfl ?_
  have h2 := hfl.app
  have e : labQ b ++ (([9], rowNm (opN v)) :: its v).map (·.2) = labQ b ++ toks v := rfl
  rw [e]
  refine okl_blank false _ (.inl rfl) h2 ?_
  refine okl_semi true _ (h2.app (x := [32])) ?_
  refine okl_skips (spT v) _ (spT_ascii v hv) ((h2.app (x := [32])).app (x := [59])) ?_
  have h3 := ((h2.app (x := [32])).app (x := [59])).app
  refine okl_nl true false _ h3 ?_
  refine okl_nl false true _ (h3.app (x := [10])) ?_
  rw [flat_line]
  simp only [List.length_append, List.length_singleton] at hn ⊢
  rw [show p + (labT b).length + (1 + (spT v).length) + 1 + 1 + (spT v).length + 1 + 1 = p + ((labT b).length + (1 + (spT v).length + (1 + (1 + ((spT v).length + (1 + 1)))))) by omega]
  exact hn
theorem okl_body {s : ByteArray} {l : List UInt8} (pl : Nat) {Q : List (List (List UInt8))} : ∀ (vs : List Nat) (i p : Nat), (∀ v ∈ vs, v < 4294967296) → Sfx s p (bodyT pl i vs ++ l) → OKL s (p + (bodyT pl i vs).length) false true [] Q → OKL s p false true [] (bodyQ pl i vs ++ Q) := by
  intro vs
  induction vs with
  | nil => intro i p _ _ hn; exact hn
  | cons v vs ih =>
    intro i p hv h hn
    rw [bodyT, List.append_assoc] at h
    rw [bodyT, List.length_append, ← Nat.add_assoc] at hn
    exact okl_line _ v (hv v List.mem_cons_self) h (ih (i + 1) _ (fun u hu => hv u (List.mem_cons_of_mem _ hu)) h.app hn)
theorem okl_tail {s : ByteArray} {p : Nat} (b : Bool) (x : List UInt8) (hx : x = [] ∨ x = [120]) (h : Sfx s p (tlT b x)) : OKL s p false true [] [labQ b ++ [[106, 117, 109, 112], NAM ++ x]] := by
  unfold tlT at h
  refine okl_lab b h ?_
  have h1 := h.app
  refine okl_blank false _ (.inl rfl) h1 ?_
  have h2 := h1.app (x := [32])
  refine okl_ptok [106, 117, 109, 112] _ (plain_nm 9 (by decide)) h2 ?_
  have h3 := h2.app
  refine okl_blank false _ (.inl rfl) h3 ?_
  have h4 := h3.app (x := [32])
  have hend : Sfx s (p + (labT b).length + 1 + 4 + 1 + (NAM ++ x).length) [] := by
    have : Sfx s (p + (labT b).length + 1 + 4 + 1) ((NAM ++ x) ++ []) := by rw [List.append_nil]; exact h4
    exact this.app
  have e : NAM ++ x = [195, 188] ++ ([[95], [49]] ++ x.map fun b => [b]).flatten := by rw [List.flatten_append, flat_one]; rfl
  refine okl_tok (l := []) [195, 188] ([[95], [49]] ++ x.map fun b => [b]) _ (fun y hy => ?_) ?_ ?_
  · rcases hx with rfl | rfl
    · simp at hy
      rcases hy with rfl | rfl | rfl
      · exact tc_u
      · exact tc_l _ (by decide)
      · exact tc_l _ (by decide)
    · simp at hy
      rcases hy with rfl | rfl | rfl | rfl
      · exact tc_u
      · exact tc_l _ (by decide)
      · exact tc_l _ (by decide)
      · exact tc_l _ (by decide)
  · rw [← List.append_assoc, ← e, List.append_nil]
    exact h4
  · rw [← e]
    have := okl_end false false (labQ b ++ [[106, 117, 109, 112], NAM ++ x]) hend
    simpa [List.append_assoc] using this
theorem okl_txt (pl : Nat) (vs : List Nat) (x : List UInt8) (hx : x = [] ∨ x = [120]) (hv : ∀ v ∈ vs, v < 4294967296) :
    OKL (bya (txt pl vs x)) 0 false true [] ([] :: (bodyQ pl 0 vs ++ [labQ (pl == vs.length) ++ [[106, 117, 109, 112], NAM ++ x]])) := by
  have h0 : Sfx (bya (txt pl vs x)) 0 (txt pl vs x) := ⟨by rw [bya_list]; rfl, Nat.zero_le _⟩
  generalize bya (txt pl vs x) = s at *
  unfold txt at h0
  refine okl_semi true [] h0 ?_
  have h1 := h0.app
  refine okl_skip (c := [32]) false [] (ch_b 32 (by decide)) (by decide) h1 ?_
  have h2 := h1.app
  refine okl_skip (c := [226, 128, 162]) false [] (.inr (.inr rfl)) (by decide) h2 ?_
  have h3 := h2.app
  refine okl_nl true false [] h3 ?_
  have h4 := h3.app (x := [10])
  exact okl_body pl vs 0 _ hv h4 (okl_tail _ x hx h4.app)

theorem brk_ascii {s : ByteArray} {l : List UInt8} (x : List UInt8) (p : Nat) (hx : ∀ b ∈ x, b.toNat < 128) (h : Sfx s p (x ++ l)) (hn : Brk s (p + x.length)) : Brk s p := by
  refine brk_all (l := l) (x.map fun b => [b]) p (fun c hc => ?_) (by rw [flat_one]; exact h) (by rw [flat_one]; exact hn)
  obtain ⟨b, hb, rfl⟩ := List.mem_map.1 hc
  exact ch_b b (hx b hb)
theorem brk_lab {s : ByteArray} {l : List UInt8} (b : Bool) (p : Nat) (h : Sfx s p (labT b ++ l)) (hn : Brk s (p + (labT b).length)) : Brk s p := by
  cases b with
  | false => exact hn
  | true =>
    refine brk_all (l := l) [[195, 188], [95], [49], [58]] p (fun c hc => ?_) h hn
    simp only [List.mem_cons, List.not_mem_nil, or_false] at hc
    rcases hc with rfl | rfl | rfl | rfl
    · exact .inr (.inl rfl)
    · exact ch_b _ (by decide)
    · exact ch_b _ (by decide)
    · exact ch_b _ (by decide)
theorem brk_line {s : ByteArray} {l : List UInt8} (b : Bool) (v : Nat) (hv : v < 4294967296) (p : Nat) (h : Sfx s p (lnT b v ++ l)) (hn : Brk s (p + (lnT b v).length)) : Brk s p := by
  unfold lnT at h hn
  rw [List.append_assoc] at h
  refine brk_lab b p h (brk_ascii _ _ (fun y hy => ?_) h.app ?_)
  · simp only [List.mem_append, List.mem_singleton] at hy
    rcases hy with (rfl | hy) | rfl | rfl | hy | rfl | rfl
    · decide
    · exact (spT_ascii v hv y hy).1
    · decide
    · decide
    · exact (spT_ascii v hv y hy).1
    · decide
    · decide
  · rw [List.length_append, ← Nat.add_assoc] at hn
    exact hn
theorem brk_body {s : ByteArray} {l : List UInt8} (pl : Nat) : ∀ (vs : List Nat) (i p : Nat), (∀ v ∈ vs, v < 4294967296) → Sfx s p (bodyT pl i vs ++ l) → Brk s (p + (bodyT pl i vs).length) → Brk s p := by
  intro vs
  induction vs with
  | nil => intro i p _ _ hn; exact hn
  | cons v vs ih =>
    intro i p hv h hn
    rw [bodyT, List.append_assoc] at h
    rw [bodyT, List.length_append, ← Nat.add_assoc] at hn
    exact brk_line _ v (hv v List.mem_cons_self) p h (ih (i + 1) _ (fun u hu => hv u (List.mem_cons_of_mem _ hu)) h.app hn)
theorem brk_txt (pl : Nat) (vs : List Nat) (x : List UInt8) (hx : x = [] ∨ x = [120]) (hv : ∀ v ∈ vs, v < 4294967296) : Brk (bya (txt pl vs x)) 0 := by
  have h0 : Sfx (bya (txt pl vs x)) 0 (txt pl vs x) := ⟨by rw [bya_list]; rfl, Nat.zero_le _⟩
  generalize bya (txt pl vs x) = s at *
  unfold txt at h0
  refine brk_ch (ch_b 59 (by decide)) h0 (brk_ch (ch_b 32 (by decide)) h0.app (brk_ch (c := [226, 128, 162]) (.inr (.inr rfl)) h0.app.app (brk_ch (ch_b 10 (by decide)) h0.app.app.app ?_)))
  have h4 := h0.app.app.app.app
  refine brk_body pl vs 0 _ hv h4 ?_
  have h5 := h4.app
  unfold tlT at h5
  refine brk_lab _ _ h5 (brk_ch (ch_b 32 (by decide)) h5.app ?_)
  have h6 := h5.app.app
  refine brk_ascii [106, 117, 109, 112] _ (by decide) h6 (brk_ch (ch_b 32 (by decide)) h6.app ?_)
  have h7 := h6.app.app
  have last : ∀ q, Sfx s q (NAM ++ x) → Brk s q := fun q hq => by
    have h8 : Sfx s q ([195, 188] ++ (([95, 49] ++ x) ++ [])) := by rw [List.append_nil]; exact hq
    refine brk_ch (.inr (.inl rfl)) h8 (brk_ascii _ _ (fun b hb => ?_) h8.app (brk_end h8.app.app))
    rcases hx with rfl | rfl
    · simp at hb; rcases hb with rfl | rfl <;> decide
    · simp at hb; rcases hb with rfl | rfl | rfl <;> decide
  exact last _ h7
end Go.Proofs.YtmmflekajbeamaaDoor
