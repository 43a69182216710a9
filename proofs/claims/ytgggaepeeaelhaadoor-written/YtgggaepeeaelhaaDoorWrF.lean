/-
  THE LAW Written: its whole text: lines and tokens.
-/
import Derived.Test.YtgggaepeeaelhaaDoorWrE
namespace Go.Proofs.YtgggaepeeaelhaaDoor
open Go

theorem tc_b {b : UInt8} (h : b.toNat < 128) (h9 : b.toNat ≠ 9) (h10 : b.toNat ≠ 10) (h32 : b.toNat ≠ 32) (h59 : b.toNat ≠ 59) : Tc [b] := ⟨ch_b b h, h9, h10, h32, h59⟩
theorem plain_dec (n : Nat) (h : n < 10000000000) : plain (dec n) := by
  obtain ⟨_, h2, _, h4⟩ := decF_ok 10 n (by simpa using h) (by omega)
  refine ⟨fun e => by unfold dec at e; rw [e] at h2; simp at h2, fun b hb => ?_⟩
  have := h4 b hb
  simp only [digC, decide_eq_true_eq] at this
  exact tc_b (by omega) (by omega) (by omega) (by omega) (by omega)
theorem plain_rT (n : Nat) (h : n < 10000000000) : plain (rT n) := by
  refine ⟨by simp [rT], fun b hb => ?_⟩
  rcases List.mem_cons.1 hb with rfl | hb
  · exact tc_b (by decide) (by decide) (by decide) (by decide) (by decide)
  · exact (plain_dec n h).2 b hb
theorem plain_nm (o : Nat) (h : o < 12) : plain (rowNm o) := by
  have hz : ∀ x : List UInt8, x ≠ [] → (x.all fun b => decide (97 ≤ b.toNat ∧ b.toNat ≤ 122)) = true → plain x := fun x h1 h2 => ⟨h1, fun b hb => by
    have := List.all_eq_true.1 h2 b hb
    simp only [decide_eq_true_eq] at this
    exact tc_b (by omega) (by omega) (by omega) (by omega) (by omega)⟩
  match o, h with
  | 0, _ | 1, _ | 2, _ | 3, _ | 4, _ | 5, _ | 6, _ | 7, _ | 8, _ | 9, _ | 10, _ | 11, _ => exact hz _ (by simp [rowNm]) (by decide)
def allI : List (List UInt8 × List UInt8) → Prop
  | [] => True
  | i :: r => (sepOK i.1 ∧ plain i.2) ∧ allI r
theorem allI_mem : ∀ (l : List (List UInt8 × List UInt8)), allI l → ∀ i ∈ l, sepOK i.1 ∧ plain i.2 := by
  intro l
  induction l with
  | nil => intro _ i hi; cases hi
  | cons a l ih =>
    intro h i hi
    rcases List.mem_cons.1 hi with rfl | hi
    · exact h.1
    · exact ih h.2 i hi
theorem sep1 : sepOK [32] := ⟨by simp, fun b hb => by simp at hb; exact .inl hb⟩
theorem sep2 : sepOK [9] := ⟨by simp, fun b hb => by simp at hb; exact .inr hb⟩
theorem sep3 : sepOK [32, 32] := ⟨by simp, fun b hb => by simp at hb; exact .inl hb⟩
theorem its_ok (v : Nat) (hv : v < 4294967296) : allI (([9], rowNm (opN v)) :: its v) := by
  have b0 : opN v < 12 := by unfold opN; omega
  have A := plain_rT (aN v) (by unfold aN; omega)
  have B := plain_rT (bN v) (by unfold bN; omega)
  have C := plain_rT (cN v) (by unfold cN; omega)
  have K := plain_dec (kN v) (by unfold kN; omega)
  have V := plain_dec v (by omega)
  refine ⟨⟨sep2, plain_nm _ b0⟩, ?_⟩
  unfold its
  split
  · exact trivial
  · exact ⟨⟨sep1, A⟩, ⟨sep3, K⟩, trivial⟩
  iterate 4
    · exact ⟨⟨sep1, A⟩, ⟨sep2, B⟩, ⟨sep1, C⟩, trivial⟩
  iterate 3
    · exact ⟨⟨sep1, A⟩, ⟨sep2, B⟩, ⟨sep3, K⟩, trivial⟩
  · exact ⟨⟨sep3, K⟩, trivial⟩
  · exact ⟨⟨sep1, A⟩, trivial⟩
  · exact ⟨⟨sep1, V⟩, trivial⟩
theorem flat_ascii (l : List (List UInt8 × List UInt8)) (h : allI l) : ∀ b ∈ flatI l, b.toNat < 128 ∧ b.toNat ≠ 10 := by
  intro b hb
  obtain ⟨i, hi, hb⟩ := List.mem_flatMap.1 hb
  obtain ⟨h1, h2⟩ := allI_mem l h i hi
  rcases List.mem_append.1 hb with hb | hb
  · rcases h1.2 b hb with rfl | rfl <;> decide
  · obtain ⟨hc, _, h10, _⟩ := h2.2 b hb
    rcases hc with ⟨x, e, hx⟩ | e | e
    · cases e; exact ⟨hx, h10⟩
    · cases e
    · cases e
theorem flat_line (v : Nat) : flatI (([9], rowNm (opN v)) :: its v) = [9] ++ spT v := by simp [flatI, spT]
theorem spT_ascii (v : Nat) (hv : v < 4294967296) : ∀ b ∈ spT v, b.toNat < 128 ∧ b.toNat ≠ 10 := fun b hb =>
  flat_ascii _ (its_ok v hv) b (by rw [flat_line]; exact List.mem_append_right _ hb)

def LAB : List UInt8 := [195, 188, 95, 49, 58]
def NAM : List UInt8 := [195, 188, 95, 49]
def labT (b : Bool) : List UInt8 := if b then LAB else []
def labQ (b : Bool) : List (List UInt8) := if b then [LAB] else []
def toks (v : Nat) : List (List UInt8) := rowNm (opN v) :: (its v).map (·.2)
def lnT (b : Bool) (v : Nat) : List UInt8 := labT b ++ (([9] ++ spT v) ++ ([32] ++ ([59] ++ (spT v ++ ([10] ++ [10])))))
def bodyT (pl : Nat) : Nat → List Nat → List UInt8
  | _, [] => []
  | i, v :: vs => lnT (i == pl) v ++ bodyT pl (i + 1) vs
def bodyQ (pl : Nat) : Nat → List Nat → List (List (List UInt8))
  | _, [] => []
  | i, v :: vs => (labQ (i == pl) ++ toks v) :: [] :: bodyQ pl (i + 1) vs
def tlT (b : Bool) (x : List UInt8) : List UInt8 := labT b ++ ([32] ++ ([106, 117, 109, 112] ++ ([32] ++ (NAM ++ x))))
def txt (pl : Nat) (vs : List Nat) (x : List UInt8) : List UInt8 := [59] ++ ([32] ++ ([226, 128, 162] ++ ([10] ++ (bodyT pl 0 vs ++ tlT (pl == vs.length) x))))

theorem tc_u : Tc [195, 188] := ⟨.inr (.inl rfl), by decide, by decide, by decide, by decide⟩
theorem tc_l (b : UInt8) (h : b = 95 ∨ b = 49 ∨ b = 58 ∨ b = 120) : Tc [b] := by
  rcases h with rfl | rfl | rfl | rfl <;> exact tc_b (by decide) (by decide) (by decide) (by decide) (by decide)
theorem okl_lab {s : ByteArray} {p : Nat} {l : List UInt8} (b : Bool) {Q : List (List (List UInt8))} (h : Sfx s p (labT b ++ l)) (hn : OKL s (p + (labT b).length) false false (labQ b) Q) : OKL s p false true [] Q := by
  cases b with
  | false => exact okl_weak true hn
  | true =>
    refine okl_tok (l := l) [195, 188] [[95], [49], [58]] [] (fun x hx => ?_) h hn
    simp only [List.mem_cons, List.not_mem_nil, or_false] at hx
    rcases hx with rfl | rfl | rfl | rfl
    · exact tc_u
    · exact tc_l _ (by decide)
    · exact tc_l _ (by decide)
    · exact tc_l _ (by decide)
theorem okl_line {s : ByteArray} {p : Nat} {l : List UInt8} (b : Bool) (v : Nat) (hv : v < 4294967296) {Q : List (List (List UInt8))} (h : Sfx s p (lnT b v ++ l)) (hn : OKL s (p + (lnT b v).length) false true [] Q) : OKL s p false true [] ((labQ b ++ toks v) :: [] :: Q) := by
  unfold lnT at h hn
  simp only [List.append_assoc] at h
  refine okl_lab b h ?_
  have h1 := h.app
  have hfl : Sfx s (p + (labT b).length) (flatI (([9], rowNm (opN v)) :: its v) ++ ([32] ++ ([59] ++ (spT v ++ ([10] ++ ([10] ++ l)))))) := by
    rw [flat_line, List.append_assoc]
    exact h1
  refine okl_items _ _ false _ (allI_mem _ (its_ok v hv)) hfl ?_
  have h2 := hfl.app
  have e : labQ b ++ (([9], rowNm (opN v)) :: its v).map (·.2) = labQ b ++ toks v := rfl
  rw [e]
  refine okl_blank false _ (.inl rfl) h2 ?_
  refine okl_semi true _ (h2.app (x := [32])) ?_
  refine okl_skips (spT v) _ (spT_ascii v hv) ((h2.app (x := [32])).app (x := [59])) ?_
  have h3 := ((h2.app (x := [32])).app (x := [59])).app
  refine okl_nl true false _ h3 ?_
  refine okl_nl false true _ (h3.app (x := [10])) ?_
  rw [flat_line]
  simp only [List.length_append, List.length_singleton] at hn ⊢
  rw [show p + (labT b).length + (1 + (spT v).length) + 1 + 1 + (spT v).length + 1 + 1 = p + ((labT b).length + (1 + (spT v).length + (1 + (1 + ((spT v).length + (1 + 1)))))) by omega]
  exact hn
theorem okl_body {s : ByteArray} {l : List UInt8} (pl : Nat) {Q : List (List (List UInt8))} : ∀ (vs : List Nat) (i p : Nat), (∀ v ∈ vs, v < 4294967296) → Sfx s p (bodyT pl i vs ++ l) → OKL s (p + (bodyT pl i vs).length) false true [] Q → OKL s p false true [] (bodyQ pl i vs ++ Q) := by
  intro vs
  induction vs with
  | nil => intro i p _ _ hn; exact hn
  | cons v vs ih =>
    intro i p hv h hn
    rw [bodyT, List.append_assoc] at h
    rw [bodyT, List.length_append, ← Nat.add_assoc] at hn
    exact okl_line _ v (hv v List.mem_cons_self) h (ih (i + 1) _ (fun u hu => hv u (List.mem_cons_of_mem _ hu)) h.app hn)
theorem okl_tail {s : ByteArray} {p : Nat} (b : Bool) (x : List UInt8) (hx : x = [] ∨ x = [120]) (h : Sfx s p (tlT b x)) : OKL s p false true [] [labQ b ++ [[106, 117, 109, 112], NAM ++ x]] := by
  unfold tlT at h
  refine okl_lab b h ?_
  have h1 := h.app
  refine okl_blank false _ (.inl rfl) h1 ?_
  have h2 := h1.app (x := [32])
  refine okl_ptok [106, 117, 109, 112] _ (plain_nm 9 (by decide)) h2 ?_
  have h3 := h2.app
  refine okl_blank false _ (.inl rfl) h3 ?_
  have h4 := h3.app (x := [32])
  have hend : Sfx s (p + (labT b).length + 1 + 4 + 1 + (NAM ++ x).length) [] := by
    have : Sfx s (p + (labT b).length + 1 + 4 + 1) ((NAM ++ x) ++ []) := by rw [List.append_nil]; exact h4
    exact this.app
  have e : NAM ++ x = [195, 188] ++ ([[95], [49]] ++ x.map fun b => [b]).flatten := by rw [List.flatten_append, flat_one]; rfl
  refine okl_tok (l := []) [195, 188] ([[95], [49]] ++ x.map fun b => [b]) _ (fun y hy => ?_) ?_ ?_
  · rcases hx with rfl | rfl
    · simp at hy
      rcases hy with rfl | rfl | rfl
      · exact tc_u
      · exact tc_l _ (by decide)
      · exact tc_l _ (by decide)
    · simp at hy
      rcases hy with rfl | rfl | rfl | rfl
      · exact tc_u
      · exact tc_l _ (by decide)
      · exact tc_l _ (by decide)
      · exact tc_l _ (by decide)
  · rw [← List.append_assoc, ← e, List.append_nil]
    exact h4
  · rw [← e]
    have := okl_end false false (labQ b ++ [[106, 117, 109, 112], NAM ++ x]) hend
    simpa [List.append_assoc] using this
theorem okl_txt (pl : Nat) (vs : List Nat) (x : List UInt8) (hx : x = [] ∨ x = [120]) (hv : ∀ v ∈ vs, v < 4294967296) :
    OKL (bya (txt pl vs x)) 0 false true [] ([] :: (bodyQ pl 0 vs ++ [labQ (pl == vs.length) ++ [[106, 117, 109, 112], NAM ++ x]])) := by
  have h0 : Sfx (bya (txt pl vs x)) 0 (txt pl vs x) := ⟨by rw [bya_list]; rfl, Nat.zero_le _⟩
  generalize bya (txt pl vs x) = s at *
  unfold txt at h0
  refine okl_semi true [] h0 ?_
  have h1 := h0.app
  refine okl_skip (c := [32]) false [] (ch_b 32 (by decide)) (by decide) h1 ?_
  have h2 := h1.app
  refine okl_skip (c := [226, 128, 162]) false [] (.inr (.inr rfl)) (by decide) h2 ?_
  have h3 := h2.app
  refine okl_nl true false [] h3 ?_
  have h4 := h3.app (x := [10])
  exact okl_body pl vs 0 _ hv h4 (okl_tail _ x hx h4.app)

theorem brk_ascii {s : ByteArray} {l : List UInt8} (x : List UInt8) (p : Nat) (hx : ∀ b ∈ x, b.toNat < 128) (h : Sfx s p (x ++ l)) (hn : Brk s (p + x.length)) : Brk s p := by
  refine brk_all (l := l) (x.map fun b => [b]) p (fun c hc => ?_) (by rw [flat_one]; exact h) (by rw [flat_one]; exact hn)
  obtain ⟨b, hb, rfl⟩ := List.mem_map.1 hc
  exact ch_b b (hx b hb)
theorem brk_lab {s : ByteArray} {l : List UInt8} (b : Bool) (p : Nat) (h : Sfx s p (labT b ++ l)) (hn : Brk s (p + (labT b).length)) : Brk s p := by
  cases b with
  | false => exact hn
  | true =>
    refine brk_all (l := l) [[195, 188], [95], [49], [58]] p (fun c hc => ?_) h hn
    simp only [List.mem_cons, List.not_mem_nil, or_false] at hc
    rcases hc with rfl | rfl | rfl | rfl
    · exact .inr (.inl rfl)
    · exact ch_b _ (by decide)
    · exact ch_b _ (by decide)
    · exact ch_b _ (by decide)
theorem brk_line {s : ByteArray} {l : List UInt8} (b : Bool) (v : Nat) (hv : v < 4294967296) (p : Nat) (h : Sfx s p (lnT b v ++ l)) (hn : Brk s (p + (lnT b v).length)) : Brk s p := by
  unfold lnT at h hn
  rw [List.append_assoc] at h
  refine brk_lab b p h (brk_ascii _ _ (fun y hy => ?_) h.app ?_)
  · simp only [List.mem_append, List.mem_singleton] at hy
    rcases hy with (rfl | hy) | rfl | rfl | hy | rfl | rfl
    · decide
    · exact (spT_ascii v hv y hy).1
    · decide
    · decide
    · exact (spT_ascii v hv y hy).1
    · decide
    · decide
  · rw [List.length_append, ← Nat.add_assoc] at hn
    exact hn
theorem brk_body {s : ByteArray} {l : List UInt8} (pl : Nat) : ∀ (vs : List Nat) (i p : Nat), (∀ v ∈ vs, v < 4294967296) → Sfx s p (bodyT pl i vs ++ l) → Brk s (p + (bodyT pl i vs).length) → Brk s p := by
  intro vs
  induction vs with
  | nil => intro i p _ _ hn; exact hn
  | cons v vs ih =>
    intro i p hv h hn
    rw [bodyT, List.append_assoc] at h
    rw [bodyT, List.length_append, ← Nat.add_assoc] at hn
    exact brk_line _ v (hv v List.mem_cons_self) p h (ih (i + 1) _ (fun u hu => hv u (List.mem_cons_of_mem _ hu)) h.app hn)
theorem brk_txt (pl : Nat) (vs : List Nat) (x : List UInt8) (hx : x = [] ∨ x = [120]) (hv : ∀ v ∈ vs, v < 4294967296) : Brk (bya (txt pl vs x)) 0 := by
  have h0 : Sfx (bya (txt pl vs x)) 0 (txt pl vs x) := ⟨by rw [bya_list]; rfl, Nat.zero_le _⟩
  generalize bya (txt pl vs x) = s at *
  unfold txt at h0
  refine brk_ch (ch_b 59 (by decide)) h0 (brk_ch (ch_b 32 (by decide)) h0.app (brk_ch (c := [226, 128, 162]) (.inr (.inr rfl)) h0.app.app (brk_ch (ch_b 10 (by decide)) h0.app.app.app ?_)))
  have h4 := h0.app.app.app.app
  refine brk_body pl vs 0 _ hv h4 ?_
  have h5 := h4.app
  unfold tlT at h5
  refine brk_lab _ _ h5 (brk_ch (ch_b 32 (by decide)) h5.app ?_)
  have h6 := h5.app.app
  refine brk_ascii [106, 117, 109, 112] _ (by decide) h6 (brk_ch (ch_b 32 (by decide)) h6.app ?_)
  have h7 := h6.app.app
  have last : ∀ q, Sfx s q (NAM ++ x) → Brk s q := fun q hq => by
    have h8 : Sfx s q ([195, 188] ++ (([95, 49] ++ x) ++ [])) := by rw [List.append_nil]; exact hq
    refine brk_ch (.inr (.inl rfl)) h8 (brk_ascii _ _ (fun b hb => ?_) h8.app (brk_end h8.app.app))
    rcases hx with rfl | rfl
    · simp at hb; rcases hb with rfl | rfl <;> decide
    · simp at hb; rcases hb with rfl | rfl | rfl <;> decide
  exact last _ h7
end Go.Proofs.YtgggaepeeaelhaaDoor
