/-
  THE LAW Written: tokens, items and lines of its text.
-/
import Derived.Test.YtgggaepeeaelhaaDoorWrD
namespace Go.Proofs.YtgggaepeeaelhaaDoor
open Go

/-- A character that may stand in a token. -/
def Tc (c : List UInt8) : Prop := Ch c ∧ hd c ≠ 9 ∧ hd c ≠ 10 ∧ hd c ≠ 32 ∧ hd c ≠ 59
theorem tok_go (s : ByteArray) (p0 : Nat) (L : List (ByteArray × Int)) (k : Int) (l : List UInt8) : ∀ (cs : List (List UInt8)) (x : List UInt8) (d : DS) (f : Nat), (∀ c ∈ cs, Tc c) → d.frm = (p0 : Int) → d.l = L ++ [(bya x, k)] → Sfx s p0 (x ++ (cs.flatten ++ l)) → s.size ≤ p0 + x.length + f →
    ∃ d' f', d'.l = L ++ [(bya (x ++ cs.flatten), k)] ∧ d.col ≤ d'.col ∧ s.size ≤ p0 + (x ++ cs.flatten).length + f' ∧ Dgo s f (p0 + x.length) false d = Dgo s f' (p0 + (x ++ cs.flatten).length) false d' := by
  intro cs
  induction cs with
  | nil =>
    intro x d f _ _ hl _ hf
    refine ⟨d, f, ?_, Int.le_refl _, ?_, ?_⟩
    · rw [hl, List.flatten_nil, List.append_nil]
    · rw [List.flatten_nil, List.append_nil]; exact hf
    · rw [List.flatten_nil, List.append_nil]
  | cons c cs ih =>
    intro x d f hc hfrm hl h hf
    obtain ⟨hch, h9, h10, h32, h59⟩ := hc c List.mem_cons_self
    have h' : Sfx s p0 ((x ++ c) ++ (cs.flatten ++ l)) := by
      rw [List.flatten_cons] at h
      simpa [List.append_assoc] using h
    have hs : Sfx s (p0 + x.length) (c ++ (cs.flatten ++ l)) := by
      rw [List.append_assoc] at h'
      exact h'.app
    obtain ⟨g, rfl, hg2, he⟩ := okl_step hch hs false d hf
    obtain ⟨w1, w2, _⟩ := ch_at hch hs
    rw [he, if_neg h10, if_neg (fun e => by rcases e with e | e; cases e; exact h59 e)]
    have e : stepD s (p0 + x.length) d = ⟨L ++ [(bya (x ++ c), k)], d.col + 1, d.col + 1, d.frm⟩ := by
      unfold stepD
      rw [w2, w1, if_neg (fun e => by rcases e with e | e; exact h32 e; exact h9 e), if_neg (by omega), hl, setLast_snoc, hfrm]
      have := h'.ext
      rw [List.length_append, ← Nat.add_assoc] at this
      rw [Int.toNat_natCast, this]
    rw [e]
    obtain ⟨d', f', r1, r2, r3, r4⟩ := ih (x ++ c) ⟨L ++ [(bya (x ++ c), k)], d.col + 1, d.col + 1, d.frm⟩ g (fun c' h' => hc c' (List.mem_cons_of_mem _ h')) hfrm rfl h' (by rw [List.length_append]; omega)
    rw [List.append_assoc] at r1 r3 r4
    refine ⟨d', f', ?_, ?_, ?_, ?_⟩
    · rw [r1, List.flatten_cons]
    · have : d.col + 1 ≤ d'.col := r2
      omega
    · rw [List.flatten_cons]; exact r3
    · rw [List.flatten_cons, ← r4, List.length_append, Nat.add_assoc]
theorem okl_tok {s : ByteArray} {p : Nat} {l : List UInt8} (c : List UInt8) (cs : List (List UInt8)) (xs : List (List UInt8)) {Q : List (List (List UInt8))} (hc : ∀ x ∈ c :: cs, Tc x) (h : Sfx s p (c ++ (cs.flatten ++ l))) (hn : OKL s (p + (c ++ cs.flatten).length) false false (xs ++ [c ++ cs.flatten]) Q) : OKL s p false true xs Q := by
  intro d f hg hcol hneg hf
  have hfr := hneg rfl
  obtain ⟨hch, h9, h10, h32, h59⟩ := hc c List.mem_cons_self
  obtain ⟨g, rfl, hg2, he⟩ := okl_step hch h false d hf
  obtain ⟨w1, w2, _⟩ := ch_at hch h
  rw [he, if_neg h10, if_neg (fun e => by rcases e with e | e; cases e; exact h59 e)]
  have e : stepD s p d = ⟨d.l ++ [(bya c, d.col)], d.col + 1, d.col + 1, p⟩ := by
    unfold stepD
    rw [w2, w1, if_neg (fun e => by rcases e with e | e; exact h32 e; exact h9 e), if_pos hfr, h.ext]
  rw [e]
  obtain ⟨d', f', r1, r2, r3, r4⟩ := tok_go s p d.l d.col l cs c ⟨d.l ++ [(bya c, d.col)], d.col + 1, d.col + 1, p⟩ g (fun c' h' => hc c' (List.mem_cons_of_mem _ h')) rfl rfl h hg2
  rw [r4]
  have r2' : d.col + 1 ≤ d'.col := r2
  refine hn d' f' ⟨?_, ?_⟩ (by omega) (fun h => by cases h) r3
  · show d'.l.map _ = _
    rw [r1, List.map_append, List.map_singleton, bya_list]
    rw [show d.l.map (fun p => p.1.data.toList) = xs from hg.1]
  · intro q hq
    have hq' : q ∈ d'.l := hq
    rw [r1] at hq'
    rcases List.mem_append.1 hq' with hq' | hq'
    · exact hg.2 q hq'
    · rw [List.mem_singleton.1 hq']; exact hcol
theorem okl_weak {s : ByteArray} {p : Nat} {stop : Bool} {xs : List (List UInt8)} {Q : List (List (List UInt8))} (neg : Bool) (h : OKL s p stop false xs Q) : OKL s p stop neg xs Q :=
  fun d f hg hcol _ hf => h d f hg hcol (fun h => by cases h) hf

def sepOK (x : List UInt8) : Prop := x ≠ [] ∧ ∀ b ∈ x, b = 32 ∨ b = 9
def plain (t : List UInt8) : Prop := t ≠ [] ∧ ∀ b ∈ t, Tc [b]
theorem okl_seps {s : ByteArray} {l : List UInt8} {xs : List (List UInt8)} {Q : List (List (List UInt8))} : ∀ (x : List UInt8) (p : Nat) (neg : Bool), sepOK x → Sfx s p (x ++ l) → OKL s (p + x.length) false true xs Q → OKL s p false neg xs Q := by
  intro x
  induction x with
  | nil => intro p neg h; exact absurd rfl h.1
  | cons b x ih =>
    intro p neg hx h hn
    have hn' : OKL s (p + 1 + x.length) false true xs Q := by
      rw [List.length_cons, show p + (x.length + 1) = p + 1 + x.length by omega] at hn
      exact hn
    have h1 : Sfx s (p + 1) (x ++ l) := (show Sfx s p ([b] ++ (x ++ l)) from h).app
    refine okl_blank neg xs (hx.2 b List.mem_cons_self) h ?_
    cases x with
    | nil => exact hn'
    | cons b' x => exact ih (p + 1) true ⟨by simp, fun y hy => hx.2 y (List.mem_cons_of_mem _ hy)⟩ h1 hn'
theorem flat_one (t : List UInt8) : (t.map fun b => [b]).flatten = t := by
  induction t with
  | nil => rfl
  | cons a t ih => simp [ih]
theorem okl_ptok {s : ByteArray} {p : Nat} {l : List UInt8} (t : List UInt8) (xs : List (List UInt8)) {Q : List (List (List UInt8))} (ht : plain t) (h : Sfx s p (t ++ l)) (hn : OKL s (p + t.length) false false (xs ++ [t]) Q) : OKL s p false true xs Q := by
  cases t with
  | nil => exact absurd rfl ht.1
  | cons b t =>
    refine okl_tok (l := l) [b] (t.map fun b => [b]) xs (fun x hx => ?_) ?_ ?_
    · rcases List.mem_cons.1 hx with rfl | hx
      · exact ht.2 b List.mem_cons_self
      · obtain ⟨y, hy, rfl⟩ := List.mem_map.1 hx
        exact ht.2 y (List.mem_cons_of_mem _ hy)
    · rw [flat_one]; exact h
    · rw [flat_one]; exact hn
def flatI (its : List (List UInt8 × List UInt8)) : List UInt8 := its.flatMap fun p => p.1 ++ p.2
theorem okl_items {s : ByteArray} {l : List UInt8} {Q : List (List (List UInt8))} : ∀ (its : List (List UInt8 × List UInt8)) (p : Nat) (neg : Bool) (xs : List (List UInt8)), (∀ i ∈ its, sepOK i.1 ∧ plain i.2) → Sfx s p (flatI its ++ l) → OKL s (p + (flatI its).length) false false (xs ++ its.map (·.2)) Q → OKL s p false neg xs Q := by
  intro its
  induction its with
  | nil =>
    intro p neg xs _ _ hn
    rw [List.map_nil, List.append_nil] at hn
    exact okl_weak neg hn
  | cons i its ih =>
    intro p neg xs hi h hn
    obtain ⟨h1, h2⟩ := hi i List.mem_cons_self
    have e : flatI (i :: its) = i.1 ++ (i.2 ++ flatI its) := by simp [flatI]
    rw [e, List.append_assoc, List.append_assoc] at h
    refine okl_seps i.1 p neg h1 h (okl_ptok i.2 xs h2 h.app ?_)
    refine ih _ false _ (fun j hj => hi j (List.mem_cons_of_mem _ hj)) h.app.app ?_
    rw [e, List.length_append, List.length_append] at hn
    rw [show p + i.1.length + i.2.length + (flatI its).length = p + (i.1.length + (i.2.length + (flatI its).length)) by omega]
    simpa [List.append_assoc] using hn
theorem okl_skips {s : ByteArray} {l : List UInt8} {xs : List (List UInt8)} {Q : List (List (List UInt8))} : ∀ (x : List UInt8) (p : Nat), (∀ b ∈ x, b.toNat < 128 ∧ b.toNat ≠ 10) → Sfx s p (x ++ l) → OKL s (p + x.length) true false xs Q → OKL s p true false xs Q := by
  intro x
  induction x with
  | nil => intro p _ _ hn; exact hn
  | cons b x ih =>
    intro p hx h hn
    have h1 : Sfx s (p + 1) (x ++ l) := (show Sfx s p ([b] ++ (x ++ l)) from h).app
    refine okl_skip (c := [b]) false xs (ch_b b (hx b List.mem_cons_self).1) (hx b List.mem_cons_self).2 (show Sfx s p ([b] ++ (x ++ l)) from h) ?_
    refine ih (p + 1) (fun y hy => hx y (List.mem_cons_of_mem _ hy)) h1 ?_
    rw [List.length_cons, show p + (x.length + 1) = p + 1 + x.length by omega] at hn
    exact hn
end Go.Proofs.YtgggaepeeaelhaaDoor
