/-
  THE LAW Written: the answer to its text, whole.
-/
import Derived.Test.YtgggaepeeaelhaaDoorWrH
namespace Go.Proofs.YtgggaepeeaelhaaDoor
open Go

theorem dec_len4 (n : Nat) (h : n < 10000) : (dec n).length ≤ 4 := by
  unfold dec
  rw [decF_more 4 10 n (by simpa using h) (by omega) (by omega)]
  exact (decF_ok 4 n (by simpa using h) (by omega)).2.2.1
theorem rT_len (n : Nat) (h : n < 8) : (rT n).length = 2 := by
  unfold rT
  rw [dec_small n (by omega)]
  rfl
theorem spT_len (v : Nat) (hv : v < 4294967296) : (spT v).length ≤ 18 := by
  have b0 : opN v < 12 := by unfold opN; omega
  have hnm : (rowNm (opN v)).length ≤ 5 := by
    generalize opN v = o at *
    match o, b0 with
    | 0, _ | 1, _ | 2, _ | 3, _ | 4, _ | 5, _ | 6, _ | 7, _ | 8, _ | 9, _ | 10, _ | 11, _ => decide
  have A := rT_len (aN v) (by unfold aN; omega)
  have B := rT_len (bN v) (by unfold bN; omega)
  have C := rT_len (cN v) (by unfold cN; omega)
  have K := dec_len4 (kN v) (by unfold kN; omega)
  have V := (dec_len v (by omega)).2
  have hi : (flatI (its v)).length ≤ 13 := by
    unfold its
    split <;> simp [flatI] <;> omega
  have e : spT v = rowNm (opN v) ++ flatI (its v) := rfl
  rw [e, List.length_append]
  omega
theorem body_len (pl : Nat) : ∀ (vs : List Nat) (i : Nat), (∀ v ∈ vs, v < 4294967296) → (bodyT pl i vs).length ≤ 46 * vs.length := by
  intro vs
  induction vs with
  | nil => intro i _; simp [bodyT]
  | cons v vs ih =>
    intro i hv
    have h1 := ih (i + 1) (fun u hu => hv u (List.mem_cons_of_mem _ hu))
    have h2 := spT_len v (hv v List.mem_cons_self)
    have h3 : (labT (i == pl)).length ≤ 5 := by cases (i == pl) <;> decide
    simp only [bodyT, lnT, List.length_append, List.length_cons, List.length_nil]
    omega
theorem txt_len (pl : Nat) (vs : List Nat) (x : List UInt8) (hx : x.length ≤ 1) (hv : ∀ v ∈ vs, v < 4294967296) (hn : vs.length ≤ 40) : (txt pl vs x).length ≤ 1900 := by
  have h1 := body_len pl vs 0 hv
  have h3 : (labT (pl == vs.length)).length ≤ 5 := by cases (pl == vs.length) <;> decide
  simp only [txt, tlT, NAM, List.length_append, List.length_cons, List.length_nil]
  omega

/-- One pass over the text comes to its last line. -/
theorem pass_txt (lb : List (List UInt8 × Int)) (ga : Bool) (pl : Nat) (vs : List Nat) (x : List UInt8) (hv : ∀ v ∈ vs, v < 4294967296) (hn : vs.length ≤ 40) (R : List (List (ByteArray × Int) × Int)) (hg : GG ([] :: (bodyQ pl 0 vs ++ [labQ (pl == vs.length) ++ [[106, 117, 109, 112], NAM ++ x]])) R) :
    ∃ (l : List (ByteArray × Int)) (e : Int), l.map tx = [[106, 117, 109, 112], NAM ++ x] ∧ (∀ q ∈ l, 1 ≤ q.2) ∧ passD lb ga 0 R [] [] = match insD lb ga (1 + 2 * vs.length) e l (vs.map fun v => (spW v : Int)) with | .inl ws' => .inl (ws', mkOf pl (vs.length + 1)) | .inr f => .inr f := by
  match R, hg with
  | r :: R, hg =>
    obtain ⟨g1, g2⟩ := hg
    have e1 : r.1 = [] := by simpa using g1.1
    obtain ⟨R', k1, k2⟩ := pass_body lb ga pl [labQ (pl == vs.length) ++ [[106, 117, 109, 112], NAM ++ x]] vs 0 1 [] R hv g2 rfl (by omega)
    have s1 : passD lb ga 0 (r :: R) [] [] = passD lb ga 1 R [] (mkOf pl 0) := by
      show (match lineD lb ga 0 r.2 r.1 [] [] with | .inl (ws', mk') => passD lb ga 1 R ws' mk' | .inr f => .inr f) = _
      rw [e1]
      have : mkOf pl 0 = [] := by simp [mkOf]
      rw [this]
      rfl
    match R', k1 with
    | [q], k1 =>
      obtain ⟨q1, _⟩ := k1
      have hb : (pl == vs.length) = (vs.length == pl) := by
        by_cases h : pl = vs.length
        · rw [h]
        · have h' : ¬ vs.length = pl := fun e => h e.symm
          rw [beq_eq_false_iff_ne.2 h, beq_eq_false_iff_ne.2 h']
      have hq := q1.1
      rw [hb] at hq
      obtain ⟨l', h1, h2, h3⟩ := line_gen lb ga pl vs.length (1 + 2 * vs.length) q.2 q.1 (vs.map fun v => (spW v : Int)) [106, 117, 109, 112] [NAM ++ x] (by decide) hq (by simp)
      refine ⟨l', q.2, h1, fun t ht => q1.2 t (h2 t ht), ?_⟩
      rw [s1, k2, Nat.zero_add, List.nil_append]
      show (match lineD lb ga (1 + 2 * vs.length) q.2 q.1 (vs.map fun v => (spW v : Int)) (mkOf pl vs.length) with | .inl (ws', mk') => passD lb ga (1 + 2 * vs.length + 1) [] ws' mk' | .inr f => .inr f) = _
      rw [h3]
      cases insD lb ga (1 + 2 * vs.length) q.2 l' (vs.map fun v => (spW v : Int)) <;> rfl
theorem okl_zero {s : ByteArray} {Q : List (List (List UInt8))} (h : OKL s 0 false true [] Q) : GG Q (Dgo s s.size 0 false d0) :=
  h d0 s.size ⟨rfl, fun p hp => by cases hp⟩ (by decide) (fun _ => by decide) (by omega)
theorem asm_txt (pl : Nat) (vs : List Nat) (hv : ∀ v ∈ vs, v < 4294967296) (hn : vs.length ≤ 40) (hpl : pl ≤ vs.length) :
    asmP (bya (txt pl vs [])) = .inl ((vs.map fun v => (spW v : Int)) ++ [150994944 + (pl : Int)]) ∧ ∃ c, asmP (bya (txt pl vs [120])) = .inr (2 * (vs.length : Int) + 2, c, 7) := by
  have mk : mkOf pl (vs.length + 1) = [(NAM, (pl : Int))] := by
    unfold mkOf
    rw [if_pos (by omega)]
  have gen : ∀ x : List UInt8, x = [] ∨ x = [120] → ¬ 2000 < (bya (txt pl vs x)).size ∧ brkGo (bya (txt pl vs x)) (bya (txt pl vs x)).size 0 1 1 = none ∧ GG ([] :: (bodyQ pl 0 vs ++ [labQ (pl == vs.length) ++ [[106, 117, 109, 112], NAM ++ x]])) ((linesD (bya (txt pl vs x))).map toksD) := fun x hx => by
    have hb := brk_txt pl vs x hx hv (bya (txt pl vs x)).size 1 1
    refine ⟨?_, hb, ?_⟩
    · have := txt_len pl vs x (by rcases hx with rfl | rfl <;> simp) hv hn
      rw [bya_size]
      exact Nat.not_lt.2 (Nat.le_trans this (by decide))
    · rw [lines_dgo _ hb]
      have ok := okl_txt pl vs x hx hv
      generalize bya (txt pl vs x) = s at *
      exact okl_zero ok
  have first : ∀ x : List UInt8, x = [] ∨ x = [120] → ∀ R, GG ([] :: (bodyQ pl 0 vs ++ [labQ (pl == vs.length) ++ [[106, 117, 109, 112], NAM ++ x]])) R → ∃ ws, passD [] true 0 R [] [] = .inl (ws, [(NAM, (pl : Int))]) := fun x hx R hg => by
    obtain ⟨l, e, h1, h2, h3⟩ := pass_txt [] true pl vs x hv hn R hg
    obtain ⟨h, ps, rfl, h4, _⟩ := one_jump e [] true (NAM ++ x) (by rcases hx with rfl | rfl; exact .inl rfl; exact .inr rfl) l h1 h2
    refine ⟨(vs.map fun v => (spW v : Int)) ++ [150994944], ?_⟩
    rw [h3, mk]
    unfold insD
    simp only
    rw [h4 rfl]
    simp only
    rw [if_pos trivial, if_neg (by simp; omega)]
  constructor
  · obtain ⟨g1, g2, g3⟩ := gen [] (.inl rfl)
    obtain ⟨ws, f1⟩ := first [] (.inl rfl) _ g3
    rw [asm_same]
    unfold asmD
    rw [if_neg g1, g2]
    simp only
    rw [f1]
    simp only
    obtain ⟨l, e, h1, h2, h3⟩ := pass_txt [(NAM, (pl : Int))] false pl vs [] hv hn _ g3
    obtain ⟨h, ps, rfl, _, h4, _⟩ := one_jump e [(NAM, (pl : Int))] false (NAM ++ []) (.inl rfl) l h1 h2
    have h5 := h4 rfl pl (by simp)
    have h6 : insD [(NAM, (pl : Int))] false (1 + 2 * vs.length) e (h :: ps) (vs.map fun v => (spW v : Int)) = .inl ((vs.map fun v => (spW v : Int)) ++ [150994944 + (pl : Int)]) := by
      unfold insD
      simp only
      rw [h5]
      simp only
      rw [if_pos trivial, if_neg (by simp; omega)]
    rw [h3, h6]
  · obtain ⟨g1, g2, g3⟩ := gen [120] (.inr rfl)
    obtain ⟨ws, f1⟩ := first [120] (.inr rfl) _ g3
    rw [asm_same]
    unfold asmD
    rw [if_neg g1, g2]
    simp only
    rw [f1]
    simp only
    obtain ⟨l, e, h1, h2, h3⟩ := pass_txt [(NAM, (pl : Int))] false pl vs [120] hv hn _ g3
    obtain ⟨h, ps, rfl, _, _, h4⟩ := one_jump e [(NAM, (pl : Int))] false (NAM ++ [120]) (.inr rfl) l h1 h2
    obtain ⟨c, h5⟩ := h4 rfl (by
      have : (NAM ++ [120] == NAM) = false := by decide
      simp only [List.lookup, this])
    refine ⟨c, ?_⟩
    have h6 : insD [(NAM, (pl : Int))] false (1 + 2 * vs.length) e (h :: ps) (vs.map fun v => (spW v : Int)) = .inr (2 * (vs.length : Int) + 2, c, 7) := by
      unfold insD
      simp only
      rw [h5]
      simp only
      rw [if_neg (by decide), show (((1 + 2 * vs.length : Nat) : Int)) + 1 = 2 * (vs.length : Int) + 2 by omega]
    rw [h3, h6]
end Go.Proofs.YtgggaepeeaelhaaDoor
