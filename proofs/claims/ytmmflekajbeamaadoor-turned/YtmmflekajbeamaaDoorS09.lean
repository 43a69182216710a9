/-
  The document's lines and tokens: line by line is character by character.
  Tokens are of whole characters; names by characters are names by bytes.
  The document's own answer: how many bytes a character has (width).
-/
import Derived.Test.YtmmflekajbeamaaDoorS08
import Derived.Test.YtmmflekajbeamaaDoorS05
namespace Go.Proofs.YtmmflekajbeamaaDoor
open Go
theorem size_ext (s : ByteArray) (a b : Nat) (hb : b ≤ s.size) : (s.extract a b).size = b - a := by
  rw [ByteArray.size_extract]; omega
theorem bt_ext (s : ByteArray) (a b j : Nat) (hb : b ≤ s.size) (hj : a + j < b) : bt (s.extract a b) j = bt s (a + j) := by
  have h1 : j < (s.extract a b).size := by rw [size_ext s a b hb]; omega
  have h2 : a + j < s.size := by omega
  have e1 : (s.extract a b).get! j = (s.extract a b).data[j]! := rfl
  have e2 : s.get! (a + j) = s.data[a + j]! := rfl
  unfold bt
  rw [e1, e2, getElem!_pos (s.extract a b).data j h1, getElem!_pos s.data (a + j) h2]
  congr 1
  exact ByteArray.getElem_extract h1
theorem widC_ext (s : ByteArray) (a b i : Nat) (hb : b ≤ s.size) : ∀ (f j c : Nat), a + i + j + f ≤ b → widC (s.extract a b) i f j c = widC s (a + i) f j c := by
  intro f
  induction f with
  | zero => intro j c _; rfl
  | succ f ih =>
    intro j c h
    unfold widC
    rw [bt_ext s a b (i + j) hb (by omega), show a + (i + j) = a + i + j by omega]
    split
    · rfl
    · exact ih (j + 1) _ (by omega)
theorem widN_ext (s : ByteArray) (a b i n c least : Nat) (hb : b ≤ s.size) (hn : 0 < n) (h : a + i + n ≤ b) : widN (s.extract a b) i n c least = widN s (a + i) n c least := by
  unfold widN
  rw [size_ext s a b hb, if_neg (by omega), if_neg (by omega), widC_ext s a b i hb _ _ _ (by omega)]
theorem widN_or (s : ByteArray) (i n c least : Nat) : widN s i n c least = 0 ∨ widN s i n c least = n := by
  unfold widN
  split
  · exact .inl rfl
  · split
    · exact .inl rfl
    · split
      · exact .inl rfl
      · exact .inr rfl
theorem wid_ext (s : ByteArray) (a b i : Nat) (hb : b ≤ s.size) (hw : wid s (a + i) ≠ 0) (h : a + i + wid s (a + i) ≤ b) : wid (s.extract a b) i = wid s (a + i) := by
  have key : ∀ n c least, 0 < n → wid s (a + i) = widN s (a + i) n c least → widN (s.extract a b) i n c least = wid s (a + i) := by
    intro n c least hn e
    rcases widN_or s (a + i) n c least with h0 | h0
    · omega
    · rw [e, widN_ext s a b i n c least hb hn (by omega)]
  have hbt := bt_ext s a b i hb (by omega)
  by_cases h1 : bt s (a + i) < 128
  · unfold wid; rw [hbt, if_pos h1, if_pos h1]
  · by_cases h2 : 192 ≤ bt s (a + i) ∧ bt s (a + i) < 224
    · have e : wid s (a + i) = widN s (a + i) 2 (bt s (a + i) - 192) 128 := by unfold wid; rw [if_neg h1, if_pos h2]
      have k := key _ _ _ (by decide) e
      rw [← k]
      unfold wid; rw [hbt, if_neg h1, if_pos h2]
    · by_cases h3 : 224 ≤ bt s (a + i) ∧ bt s (a + i) < 240
      · have e : wid s (a + i) = widN s (a + i) 3 (bt s (a + i) - 224) 2048 := by unfold wid; rw [if_neg h1, if_neg h2, if_pos h3]
        have k := key _ _ _ (by decide) e
        rw [← k]
        unfold wid; rw [hbt, if_neg h1, if_neg h2, if_pos h3]
      · by_cases h4 : 240 ≤ bt s (a + i) ∧ bt s (a + i) < 248
        · have e : wid s (a + i) = widN s (a + i) 4 (bt s (a + i) - 240) 65536 := by unfold wid; rw [if_neg h1, if_neg h2, if_neg h3, if_pos h4]
          have k := key _ _ _ (by decide) e
          rw [← k]
          unfold wid; rw [hbt, if_neg h1, if_neg h2, if_neg h3, if_pos h4]
        · exact absurd (by unfold wid; rw [if_neg h1, if_neg h2, if_neg h3, if_neg h4]) hw
theorem ext_ext (s : ByteArray) (a b i j : Nat) (h : a + j ≤ b) : (s.extract a b).extract i j = s.extract (a + i) (a + j) := by
  rw [ByteArray.extract_extract, Nat.min_eq_left h]

/-- Shifts where the token at hand begins. -/
def shf (a : Nat) (d : DS) : DS := { d with frm := if d.frm < 0 then -1 else d.frm - a }
theorem step_ext (s : ByteArray) (a b p : Nat) (d : DS) (hb : b ≤ s.size) (hap : a ≤ p) (hw : wid s p ≠ 0) (h : p + wid s p ≤ b) (hf : 0 ≤ d.frm → (a : Int) ≤ d.frm) :
    stepD (s.extract a b) (p - a) (shf a d) = shf a (stepD s p d) := by
  have e : a + (p - a) = p := by omega
  have hbt := bt_ext s a b (p - a) hb (by omega)
  have hwd := wid_ext s a b (p - a) hb (by rw [e]; exact hw) (by rw [e]; exact h)
  rw [e] at hbt hwd
  unfold stepD
  rw [hbt, hwd]
  split
  · rfl
  · by_cases h0 : d.frm < 0
    · have : (shf a d).frm < 0 := by unfold shf; simp only [if_pos h0]; decide
      rw [if_pos this, if_pos h0, ext_ext s a b _ _ (by omega), e, show a + (p - a + wid s p) = p + wid s p by omega]
      unfold shf
      simp only [DS.mk.injEq]
      refine ⟨trivial, trivial, trivial, ?_⟩
      rw [if_neg (by omega)]; omega
    · have e2 : (shf a d).frm = d.frm - a := by unfold shf; simp only [if_neg h0]
      have : ¬ (shf a d).frm < 0 := by rw [e2]; have := hf (by omega); omega
      rw [if_neg this, if_neg h0, ext_ext s a b _ _ (by omega), e2, show a + (p - a + wid s p) = p + wid s p by omega, show a + (d.frm - (a : Int)).toNat = d.frm.toNat by have := hf (by omega); omega]
      unfold shf
      simp only [if_neg h0]

theorem lnGo_skip (s : ByteArray) : ∀ (n g p a : Nat), p + n ≤ s.size → (∀ j, p ≤ j → j < p + n → bt s j ≠ 10) → lnGo s (g + n) p a = lnGo s g (p + n) a := by
  intro n
  induction n with
  | zero => intro g p a _ _; rfl
  | succ n ih =>
    intro g p a hp h
    rw [show g + (n + 1) = (g + n) + 1 by omega]
    rw [lnGo, if_pos (by omega), if_neg (h p (Nat.le_refl _) (by omega)), ih g (p + 1) a (by omega) (fun j h1 h2 => h j (by omega) (by omega)), show p + 1 + n = p + (n + 1) by omega]
theorem stepD_frm (s : ByteArray) (p : Nat) (d : DS) (a : Nat) (hap : a ≤ p) (hf : 0 ≤ d.frm → (a : Int) ≤ d.frm) (hfb : d.frm ≤ p) : (0 ≤ (stepD s p d).frm → (a : Int) ≤ (stepD s p d).frm) ∧ (stepD s p d).frm ≤ p := by
  unfold stepD
  split
  · exact ⟨fun h => by simp only at h; omega, by simp only; omega⟩
  · split
    · exact ⟨fun h => by simp only; omega, by simp only; omega⟩
    · exact ⟨hf, hfb⟩

theorem dgo_lines (s : ByteArray) : ∀ (f p a : Nat) (stop : Bool) (d : DS) (ln col : Int), p ≤ s.size → a ≤ p → s.size ≤ p + f → brkGo s f p ln col = none → (0 ≤ d.frm → (a : Int) ≤ d.frm) → d.frm ≤ p →
    ∃ b rest, lnGo s (s.size - p) p a = s.extract a b :: rest ∧ p ≤ b ∧ b ≤ s.size ∧
      ∀ F, b - p ≤ F → Dgo s f p stop d = (if stop = true then fin d else fin (tkGo (s.extract a b) F (p - a) (shf a d))) :: rest.map toksD := by
  have endd : ∀ (a : Nat) (stop : Bool) (d : DS) (F : Nat), [fin d] = (if stop = true then fin d else fin (tkGo (s.extract a s.size) F (s.size - a) (shf a d))) :: ([] : List ByteArray).map toksD := by
    intro a stop d F
    cases stop
    · have : tkGo (s.extract a s.size) F (s.size - a) (shf a d) = shf a d := by
        cases F with
        | zero => rfl
        | succ F => unfold tkGo; rw [if_neg (by rw [size_ext s a s.size (Nat.le_refl _)]; omega)]
      rw [this]; rfl
    · rfl
  intro f
  induction f with
  | zero =>
    intro p a stop d ln col hp hap hf hv _ _
    have : p = s.size := by omega
    subst this
    exact ⟨s.size, [], by rw [Nat.sub_self]; rfl, Nat.le_refl _, Nat.le_refl _, fun F _ => endd a stop d F⟩
  | succ f ih =>
    intro p a stop d ln col hp hap hf hv hf1 hf2
    by_cases hlt : p < s.size
    · unfold brkGo at hv
      rw [if_pos hlt] at hv
      by_cases hw : wid s p = 0
      · rw [if_pos hw] at hv; cases hv
      rw [if_neg hw] at hv
      obtain ⟨_, _, hle, ha, _, htl⟩ := wid_pos s p hlt hw
      by_cases h10 : bt s p = 10
      · rw [if_pos h10] at hv
        have hw1 : wid s p = 1 := (ha (by omega)).2
        rw [hw1] at hv
        obtain ⟨b, rest, l1, l2, l3, l4⟩ := ih (p + 1) (p + 1) false d0 _ _ (by omega) (Nat.le_refl _) (by omega) hv (fun h => by simp [d0] at h) (by simp [d0]; omega)
        refine ⟨p, s.extract (p + 1) b :: rest, ?_, Nat.le_refl _, by omega, fun F _ => ?_⟩
        · rw [show s.size - p = (s.size - (p + 1)) + 1 by omega, lnGo, if_pos hlt, if_pos h10, l1]
        · have e2 : tkGo (s.extract a p) F (p - a) (shf a d) = shf a d := by
            cases F with
            | zero => rfl
            | succ F => unfold tkGo; rw [if_neg (by rw [size_ext s a p (by omega)]; omega)]
          have e3 := l4 (b - (p + 1)) (Nat.le_refl _)
          rw [if_neg (by decide), Nat.sub_self] at e3
          unfold Dgo
          rw [if_pos hlt, if_pos h10, e3, e2]
          have : (if stop = true then fin d else fin (shf a d)) = fin d := by split <;> rfl
          rw [this]
          congr 1
          rw [List.map_cons]
          congr 1
          unfold toksD
          rw [size_ext s (p + 1) b l3]
          rfl
      · rw [if_neg h10] at hv
        have hskip : lnGo s (s.size - p) p a = lnGo s (s.size - (p + wid s p)) (p + wid s p) a := by
          rw [show s.size - p = (s.size - (p + wid s p)) + wid s p by omega]
          refine lnGo_skip s (wid s p) _ p a hle (fun j h1 h2 => ?_)
          by_cases hj : j = p
          · rw [hj]; exact h10
          · have := htl (j - p) (by omega) (by omega)
            rw [show p + (j - p) = j by omega] at this
            omega
        by_cases hst : stop = true ∨ bt s p = 59
        · obtain ⟨b, rest, l1, l2, l3, l4⟩ := ih (p + wid s p) a true d _ _ hle (by omega) (by omega) hv hf1 (by omega)
          refine ⟨b, rest, hskip.trans l1, by omega, l3, fun F hF => ?_⟩
          have e3 := l4 (b - (p + wid s p)) (Nat.le_refl _)
          rw [if_pos rfl] at e3
          unfold Dgo
          rw [if_pos hlt, if_neg h10, if_pos hst, e3]
          congr 1
          cases stop
          · rw [if_neg (by decide)]
            have h59 : bt s p = 59 := by rcases hst with h | h; cases h; exact h
            have hlt2 : p < b := by omega
            obtain ⟨F', rfl⟩ : ∃ F', F = F' + 1 := ⟨F - 1, by omega⟩
            unfold tkGo
            rw [if_pos (by rw [size_ext s a b l3]; omega), bt_ext s a b _ l3 (by omega), show a + (p - a) = p by omega, if_pos h59]
            rfl
          · rfl
        · obtain ⟨g1, g2⟩ := stepD_frm s p d a hap hf1 hf2
          obtain ⟨b, rest, l1, l2, l3, l4⟩ := ih (p + wid s p) a false (stepD s p d) _ _ hle (by omega) (by omega) hv g1 (by omega)
          refine ⟨b, rest, hskip.trans l1, by omega, l3, fun F hF => ?_⟩
          have hs0 : stop = false := by cases stop; rfl; exact absurd (.inl rfl) hst
          subst hs0
          have h59 : ¬ bt s p = 59 := fun h => hst (.inr h)
          unfold Dgo
          rw [if_pos hlt, if_neg h10, if_neg hst, if_neg (by decide)]
          obtain ⟨F', rfl⟩ : ∃ F', F = F' + 1 := ⟨F - 1, by omega⟩
          have e3 := l4 F' (by omega)
          rw [if_neg (by decide)] at e3
          rw [e3]
          congr 2
          rw [tkGo, if_pos (by rw [size_ext s a b l3]; omega), bt_ext s a b _ l3 (by omega), show a + (p - a) = p by omega, if_neg h59, step_ext s a b p d l3 hap hw l2 hf1]
          have := wid_ext s a b (p - a) l3 (by rw [show a + (p - a) = p by omega]; exact hw) (by rw [show a + (p - a) = p by omega]; exact l2)
          rw [this, show a + (p - a) = p by omega, show p - a + wid s p = p + wid s p - a by omega]
    · have : p = s.size := by omega
      subst this
      refine ⟨s.size, [], by rw [Nat.sub_self]; rfl, Nat.le_refl _, Nat.le_refl _, fun F _ => ?_⟩
      unfold Dgo
      rw [if_neg (by omega)]
      exact endd a stop d F

/-- A valid text's lines of tokens, as the program cuts them, are the document's. -/
theorem cut_lines (s : ByteArray) (st : CS) (hv : brkGo s s.size 0 1 1 = none) (hc : cutGo s s.size 0 cs0 = .inl st) :
    (endLineS s s.size st).lines.map (fun L => (tm L, endOf L)) = (linesD s).map toksD ∧ ∀ (i : Nat) (L : List Tok), (endLineS s s.size st).lines[i]? = some L → ∀ t ∈ L, t.fl = i + 1 ∧ t.bl = i + 1 := by
  obtain ⟨Ls, l1, l2, l3⟩ := sim s s.size 0 cs0 false d0 st (Nat.zero_le _) (by omega) (rel0 s 0 cs0 rfl rfl (by decide) rfl) hv hc
  obtain ⟨b, rest, m1, m2, m3, m4⟩ := dgo_lines s s.size 0 0 false d0 1 1 (Nat.zero_le _) (Nat.zero_le _) (by omega) hv (fun h => by simp [d0] at h) (by decide)
  have e : (endLineS s s.size st).lines = Ls := by rw [l1]; rfl
  rw [e]
  constructor
  · rw [l2]
    have := m4 b (by omega)
    rw [if_neg (by decide)] at this
    rw [this]
    unfold linesD
    rw [Nat.sub_zero] at m1
    rw [m1, List.map_cons]
    congr 1
    unfold toksD
    rw [size_ext s 0 b m3]
    rfl
  · intro i L hi t ht
    have := l3 i L hi t ht
    have e1 : (cs0 : CS).ln = 1 := rfl
    rw [e1] at this
    omega
end Go.Proofs.YtmmflekajbeamaaDoor

namespace Go.Proofs.YtmmflekajbeamaaDoor
open Go
/-- Whole characters stand from a to b. -/
def Seg (s : ByteArray) (a b : Nat) : Prop := ∀ M : Nat → Prop, M a → (∀ p, M p → p < s.size → wid s p ≠ 0 → M (p + wid s p)) → M b
theorem Seg.nil {s : ByteArray} (a : Nat) : Seg s a a := fun _ h _ => h
theorem Seg.snoc {s : ByteArray} {a p : Nat} (h : Seg s a p) (hp : p < s.size) (hw : wid s p ≠ 0) : Seg s a (p + wid s p) := fun M h0 hs => hs p (h M h0 hs) hp hw
theorem Seg.ind {s : ByteArray} {a b : Nat} (h : Seg s a b) (M : Nat → Prop) (h0 : M a) (hs : ∀ p, Seg s a p → M p → p < s.size → wid s p ≠ 0 → M (p + wid s p)) : M b :=
  (h (fun x => Seg s a x ∧ M x) ⟨Seg.nil a, h0⟩ (fun p hp hlt hw => ⟨hp.1.snoc hlt hw, hs p hp.1 hp.2 hlt hw⟩)).2
theorem Seg.le {s : ByteArray} {a b : Nat} (h : Seg s a b) : a ≤ b :=
  h.ind (fun x => a ≤ x) (Nat.le_refl _) (fun _ _ ih _ _ => Nat.le_trans ih (Nat.le_add_right _ _))
theorem Seg.ext {s : ByteArray} {a b : Nat} (h : Seg s a b) : ∀ c, b ≤ c → c ≤ s.size → Seg (s.extract a c) 0 (b - a) := by
  refine h.ind (fun x => ∀ c, x ≤ c → c ≤ s.size → Seg (s.extract a c) 0 (x - a)) (fun c _ _ => by rw [Nat.sub_self]; exact Seg.nil 0) ?_
  intro p h1 ih hp hw c hc hcs
  have hle := h1.le
  have e : a + (p - a) = p := by omega
  have h2 := wid_ext s a c (p - a) hcs (by rw [e]; exact hw) (by rw [e]; exact hc)
  rw [e] at h2
  have := (ih c (by omega) hcs).snoc (by rw [size_ext s a c hcs]; omega) (by rw [h2]; exact hw)
  rw [h2] at this
  rw [show p + wid s p - a = p - a + wid s p by omega]
  exact this
/-- All of a text are characters. -/
def Val (t : ByteArray) : Prop := Seg t 0 t.size
theorem Seg.val {s : ByteArray} {a b : Nat} (h : Seg s a b) (hb : b ≤ s.size) : Val (s.extract a b) := by
  have := h.ext b (Nat.le_refl _) hb
  unfold Val
  rw [size_ext s a b hb]
  exact this
theorem Seg.cons {s : ByteArray} {a b : Nat} (h : Seg s a b) (hab : a < b) : wid s a ≠ 0 ∧ a < s.size ∧ Seg s (a + wid s a) b := by
  have key : a < b → wid s a ≠ 0 ∧ a < s.size ∧ Seg s (a + wid s a) b := by
    refine h.ind (fun x => a < x → wid s a ≠ 0 ∧ a < s.size ∧ Seg s (a + wid s a) x) (fun h0 => by omega) ?_
    intro p h1 ih hp hw _
    by_cases hpa : a = p
    · subst hpa
      exact ⟨hw, hp, Seg.nil _⟩
    · obtain ⟨i1, i2, i3⟩ := ih (by have := h1.le; omega)
      exact ⟨i1, i2, i3.snoc hp hw⟩
  exact key hab
theorem Seg.last {s : ByteArray} {a b : Nat} (h : Seg s a b) : a = b ∨ ∃ p, Seg s a p ∧ p < s.size ∧ wid s p ≠ 0 ∧ b = p + wid s p :=
  h.ind (fun x => a = x ∨ ∃ p, Seg s a p ∧ p < s.size ∧ wid s p ≠ 0 ∧ x = p + wid s p) (.inl rfl) (fun p h1 _ hp hw => .inr ⟨p, h1, hp, hw, rfl⟩)
/-- A text of characters whose last byte is a colon: without it, it is one too. -/
theorem Val.cut {t : ByteArray} (h : Val t) (h1 : 1 ≤ t.size) (hc : bt t (t.size - 1) < 128) : Val (t.extract 0 (t.size - 1)) := by
  have key : Seg t 0 (t.size - 1) := by
    rcases Seg.last h with h0 | ⟨p, h2, hp, hw, hn⟩
    · omega
    · obtain ⟨_, _, _, _, _, htl⟩ := wid_pos t p hp hw
      have hw1 : wid t p = 1 := by
        rcases Nat.lt_or_ge 1 (wid t p) with hgt | hle
        · have := htl (wid t p - 1) (by omega) (by omega)
          rw [show p + (wid t p - 1) = t.size - 1 by omega] at this
          omega
        · omega
      rw [hn, hw1, show p + 1 - 1 = p by omega]
      exact h2
  exact Seg.val key (by omega)

/-- Every token is of whole characters, and is not empty. -/
def TokOK (t : Tok) : Prop := Val t.text ∧ 1 ≤ t.text.size ∧ t.text.size ≤ 2000 ∧ 1 ≤ t.fc
theorem tok_ok {s : ByteArray} {a p : Nat} (h : Seg s a p) (hap : a < p) (hp : p ≤ s.size) (hs : s.size ≤ 2000) (f1 f2 f3 f4 : Int) (hf : 1 ≤ f2) : TokOK ⟨s.extract a p, f1, f2, f3, f4⟩ :=
  ⟨h.val hp, by show 1 ≤ (s.extract a p).size; rw [size_ext s a p hp]; omega, by show (s.extract a p).size ≤ 2000; rw [size_ext s a p hp]; omega, hf⟩
structure CutOK (s : ByteArray) (p : Nat) (st : CS) : Prop where
  beg : 0 ≤ st.beg → st.beg < p ∧ Seg s st.beg.toNat p ∧ 1 ≤ st.fc
  col : 1 ≤ st.col
  line : ∀ t ∈ st.line, TokOK t
  lines : ∀ L ∈ st.lines, ∀ t ∈ L, TokOK t
theorem CutOK.endTok {s : ByteArray} {p : Nat} {st : CS} (h : CutOK s p st) (hp : p ≤ s.size) (hs : s.size ≤ 2000) (q : Nat) : CutOK s q (endTokS s p st) := by
  unfold endTokS
  by_cases hb : 0 ≤ st.beg
  · rw [if_pos hb]
    obtain ⟨b1, b2, b3⟩ := h.beg hb
    refine ⟨fun h0 => by simp only at h0; omega, h.col, fun t ht => ?_, h.lines⟩
    rcases List.mem_append.1 ht with ht | ht
    · exact h.line t ht
    · rw [List.mem_singleton.1 ht]
      exact tok_ok b2 (by omega) hp hs _ _ _ _ b3
  · rw [if_neg hb]
    exact ⟨fun h0 => absurd h0 hb, h.col, h.line, h.lines⟩
theorem CutOK.endLine {s : ByteArray} {p : Nat} {st : CS} (h : CutOK s p st) (hp : p ≤ s.size) (hs : s.size ≤ 2000) (q : Nat) : CutOK s q (endLineS s p st) := by
  have k := h.endTok hp hs q
  refine ⟨k.beg, by show (1 : Int) ≤ 1; omega, (fun t ht => by cases ht), fun L hL => ?_⟩
  rcases List.mem_append.1 hL with hL | hL
  · exact h.lines L hL
  · rw [List.mem_singleton.1 hL]
    exact k.line
theorem CutOK.take {s : ByteArray} {p : Nat} {st : CS} (h : CutOK s p st) (hp : p < s.size) (hs : s.size ≤ 2000) (hw : wid s p ≠ 0) (r : Int) : CutOK s (p + wid s p) (takeS s p r st) := by
  have k := h.endTok (by omega) hs (p + wid s p)
  have sg : ∀ a, Seg s a p → Seg s a (p + wid s p) := fun a ha => .snoc ha hp hw
  have b' : 0 ≤ st.beg → st.beg < (p + wid s p : Nat) ∧ Seg s st.beg.toNat (p + wid s p) ∧ 1 ≤ st.fc := fun h0 => ⟨by have := (h.beg h0).1; omega, sg _ (h.beg h0).2.1, (h.beg h0).2.2⟩
  have hc : (1 : Int) ≤ st.col + 1 := by have := h.col; omega
  unfold takeS
  split
  · exact h.endLine (by omega) hs _
  · split
    · exact ⟨k.beg, hc, k.line, k.lines⟩
    · split
      · exact ⟨b', hc, h.line, h.lines⟩
      · split
        · exact ⟨k.beg, hc, k.line, k.lines⟩
        · split
          · exact ⟨fun _ => ⟨by simp only; omega, by simp only [Int.toNat_natCast]; exact sg p (.nil p), h.col⟩, hc, h.line, h.lines⟩
          · exact ⟨b', hc, h.line, h.lines⟩
theorem cut_ok (s : ByteArray) (hs : s.size ≤ 2000) : ∀ (f p : Nat) (st st' : CS) (ln col : Int), p ≤ s.size → s.size ≤ p + f → CutOK s p st → brkGo s f p ln col = none → cutGo s f p st = .inl st' → ∀ L ∈ (endLineS s s.size st').lines, ∀ t ∈ L, TokOK t := by
  intro f
  induction f with
  | zero =>
    intro p st st' ln col hp hf h _ hc
    cases hc
    have : p = s.size := by omega
    subst this
    exact (h.endLine (Nat.le_refl _) hs 0).lines
  | succ f ih =>
    intro p st st' ln col hp hf h hv hc
    unfold cutGo at hc
    unfold brkGo at hv
    by_cases hlt : p < s.size
    · rw [if_pos hlt] at hc hv
      by_cases hw : wid s p = 0
      · rw [if_pos hw] at hv; cases hv
      rw [if_neg hw] at hv
      obtain ⟨hw2, hb, hle, _⟩ := wid_pos s p hlt hw
      rw [hb, hw2, if_neg (by decide)] at hc
      by_cases h10 : bt s p = 10
      · rw [if_pos h10] at hv
        exact ih _ _ _ _ _ hle (by omega) (h.take hlt hs hw _) hv hc
      · rw [if_neg h10] at hv
        exact ih _ _ _ _ _ hle (by omega) (h.take hlt hs hw _) hv hc
    · rw [if_neg hlt] at hc
      cases hc
      have : p = s.size := by omega
      subst this
      exact (h.endLine (Nat.le_refl _) hs 0).lines

/-- The document's name, by bytes. -/
def letC (c : Nat) : Bool := decide (c = 95 ∨ (97 ≤ c ∧ c ≤ 122) ∨ (65 ≤ c ∧ c ≤ 90) ∨ 128 ≤ c)
def ndGo (t : ByteArray) : Nat → Nat → Nat → Option Nat
  | 0, _, n => some n
  | f + 1, i, n => if i < t.size then (if letC (bt t i) || (decide (0 < i) && decide (48 ≤ bt t i ∧ bt t i ≤ 57)) then ndGo t f (i + wid t i) (n + 1) else none) else some n
theorem name_go (t : ByteArray) : ∀ (f i n : Nat), Seg t i t.size → (i = 0 ↔ n = 0) → nameGo t f i n = ndGo t f i n := by
  intro f
  induction f with
  | zero => intro i n _ _; rfl
  | succ f ih =>
    intro i n hs hn
    unfold nameGo ndGo
    by_cases hi : i < t.size
    · rw [if_pos hi, if_pos hi]
      obtain ⟨hw, _, hs'⟩ := hs.cons hi
      obtain ⟨w1, _, _, w2, w3, _⟩ := wid_pos t i hi hw
      have e : (letB (Utf8.decode t i).1 || (decide (0 < n) && decide (48 ≤ (Utf8.decode t i).1 ∧ (Utf8.decode t i).1 ≤ 57))) = (letC (bt t i) || (decide (0 < i) && decide (48 ≤ bt t i ∧ bt t i ≤ 57))) := by
        rw [Bool.eq_iff_iff]
        unfold letB letC
        simp only [Bool.or_eq_true, Bool.and_eq_true, decide_eq_true_eq]
        by_cases hb : bt t i < 128
        · have := (w2 hb).1; omega
        · have := w3 (by omega); omega
      rw [e, w1]
      split
      · exact ih _ _ hs' (by omega)
      · rfl
    · rw [if_neg hi, if_neg hi]
end Go.Proofs.YtmmflekajbeamaaDoor

namespace Go.Proofs.YtmmflekajbeamaaDoor
open Go.RowKit

theorem bt_get (s : ByteArray) (i : Nat) (h : i < s.size) : (s[i]'h).toNat = bt s i := by
  have e : s.get! i = s.data[i]! := rfl
  unfold bt
  rw [e, getElem!_pos s.data i h]
  rfl

set_option maxRecDepth 100000 in
set_option maxHeartbeats 4000000 in
theorem width2 (s : ByteArray) (i : Nat) (w : World) (hi : i < s.size) (hs : s.size ≤ 2000) (l0 : 192 ≤ bt s i) (l1 : bt s i < 224) :
    Calls Tryd.prog 112 #[.string s, .int .i64 i] w fun e' w' => e' = .returned (.int .i64 (widN s i 2 (bt s i - 192) 128)) ∧ w' = w := by
  have hb := bt_get s i hi
  have h1' : ¬ (bt s i : Int) < 128 := by omega
  have q1 : (192 : Int) ≤ (bt s i : Int) := by omega
  have q1' : (bt s i : Int) < 224 := by omega
  by_cases hfit : s.size < i + 2
  · have hN : Hid (widN s i 2 (bt s i - 192) 128 = 0) := by unfold Hid widN; rw [if_pos hfit]
    have hfit' : (s.size : Int) < (i : Int) + 2 := by omega
    go_enter Tryd.func112, Tryd.ntmps112
    go_wp2
    go_ret
    rw [hN.out]
    exact ⟨rfl, rfl⟩
  · have HN : Hid (widN s i 2 (bt s i - 192) 128 = match widC s i 1 1 (bt s i - 192) with | none => 0 | some c => if c < 128 ∨ 1114111 < c ∨ (55296 ≤ c ∧ c < 57344) then 0 else 2) := by unfold Hid widN; rw [if_neg hfit]; rfl
    have hfit' : ¬ (s.size : Int) < (i : Int) + 2 := by omega
    have hc0 : (bt s i : Int) - 192 = ((bt s i - 192 : Nat) : Int) := by omega
    have hc1 : bt s i - 192 < 32 := by omega
    go_enter Tryd.func112, Tryd.ntmps112
    go_wp2
    generalize hce : bt s i - 192 = c0 at *
    have HCe := hide hce
    clear hc0 hce
    go_loop [5, 8] (fun c j => ∃ (jj cc : Nat), 1 ≤ jj ∧ jj ≤ 2 ∧ j = .int .i64 jj ∧ c = .int .i64 cc ∧ (cc < 32 ∨ (2 ≤ jj ∧ cc < 2112) ∨ (3 ≤ jj ∧ cc < 135232) ∨ (4 ≤ jj ∧ cc < 8654912)) ∧ Hid (widC s i (2 - jj) jj cc = widC s i 1 1 c0)) (fun _ j => 2 - (intOf j).toNat)
    case atStart => exact ⟨1, c0, Nat.le_refl _, by decide, rfl, rfl, .inl hc1, rfl⟩
    case round =>
      obtain ⟨jj, cc, hj1, hj2, rfl, rfl, hcb, HG⟩ := hrel
      have hcc : cc < 8654912 := by omega
      have hcc' : (cc : Int) < 8654912 := by omega
      have HCb := hide hcb
      clear hcb
      by_cases hlt : jj < 2
      · have hlt' : (jj : Int) < 2 := by omega
        have hij : i + jj < s.size := by omega
        have hd := bt_get s (i + jj) hij
        have hij' : (i : Int) + (jj : Int) < (s.size : Int) := by omega
        have hto : ((i : Int) + (jj : Int)).toNat = i + jj := by omega
        have hstep : widC s i (2 - jj) jj cc = if bt s (i + jj) < 128 ∨ 192 ≤ bt s (i + jj) then none else widC s i (2 - (jj + 1)) (jj + 1) (cc * 64 + bt s (i + jj) - 128) := by
          rw [show 2 - jj = (2 - (jj + 1)) + 1 by omega, widC]
        have hdl := bt_lt s (i + jj)
        have HSt := hide hstep
        clear hstep
        by_cases hbad : bt s (i + jj) < 128 ∨ 192 ≤ bt s (i + jj)
        · have HZ : Hid (widN s i 2 c0 128 = 0) := by
            unfold Hid
            rw [HN.out, ← HG.out, HSt.out, if_pos hbad]
          by_cases hb1 : bt s (i + jj) < 128
          · have hb1' : (bt s (i + jj) : Int) < 128 := by omega
            go_wp2
            go_ret
            rw [HCe.out, HZ.out]
            exact ⟨rfl, rfl⟩
          · have hb1' : ¬ (bt s (i + jj) : Int) < 128 := by omega
            have hb2' : (192 : Int) ≤ (bt s (i + jj) : Int) := by omega
            go_wp2
            go_ret
            rw [HCe.out, HZ.out]
            exact ⟨rfl, rfl⟩
        · have hb1' : ¬ (bt s (i + jj) : Int) < 128 := by omega
          have hb2' : ¬ (192 : Int) ≤ (bt s (i + jj) : Int) := by omega
          have HG' : Hid (widC s i (2 - (jj + 1)) (jj + 1) (cc * 64 + bt s (i + jj) - 128) = widC s i 1 1 c0) := by
            unfold Hid
            rw [← HG.out, HSt.out, if_neg hbad]
          go_wp2
          go_round
          case rel =>
            have := HCb.out
            refine ⟨jj + 1, cc * 64 + bt s (i + jj) - 128, by omega, by omega, by go_num, ?_, by omega, HG'⟩
            congr 1
            omega
          case measure => simp [intOf]; omega
      · have hjn : jj = 2 := by omega
        subst hjn
        have hgo : widC s i 1 1 c0 = some cc := by rw [← HG.out, Nat.sub_self]; rfl
        have HZ : Hid (widN s i 2 c0 128 = if cc < 128 ∨ 1114111 < cc ∨ (55296 ≤ cc ∧ cc < 57344) then 0 else 2) := by unfold Hid; rw [HN.out, hgo]
        clear hgo HN HG HCb
        by_cases k1 : cc < 128
        · have k1' : (cc : Int) < 128 := by omega
          go_wp2
          go_ret
          rw [HCe.out, HZ.out, if_pos (.inl k1)]
          exact ⟨rfl, rfl⟩
        · have k1' : ¬ (cc : Int) < 128 := by omega
          by_cases k2 : 1114111 < cc
          · have k2' : (1114111 : Int) < (cc : Int) := by omega
            go_wp2
            go_ret
            rw [HCe.out, HZ.out, if_pos (.inr (.inl k2))]
            exact ⟨rfl, rfl⟩
          · have k2' : ¬ (1114111 : Int) < (cc : Int) := by omega
            by_cases k3 : 55296 ≤ cc
            · have k3' : (55296 : Int) ≤ (cc : Int) := by omega
              by_cases k4 : cc < 57344
              · have k4' : (cc : Int) < 57344 := by omega
                go_wp2
                go_ret
                rw [HCe.out, HZ.out, if_pos (.inr (.inr ⟨k3, k4⟩))]
                exact ⟨rfl, rfl⟩
              · have k4' : ¬ (cc : Int) < 57344 := by omega
                go_wp2
                go_ret
                rw [HCe.out, HZ.out, if_neg (by omega)]
                exact ⟨rfl, rfl⟩
            · have k3' : ¬ (55296 : Int) ≤ (cc : Int) := by omega
              go_wp2
              go_ret
              rw [HCe.out, HZ.out, if_neg (by omega)]
              exact ⟨rfl, rfl⟩

set_option maxRecDepth 100000 in
set_option maxHeartbeats 4000000 in
theorem width3 (s : ByteArray) (i : Nat) (w : World) (hi : i < s.size) (hs : s.size ≤ 2000) (l0 : 224 ≤ bt s i) (l1 : bt s i < 240) :
    Calls Tryd.prog 112 #[.string s, .int .i64 i] w fun e' w' => e' = .returned (.int .i64 (widN s i 3 (bt s i - 224) 2048)) ∧ w' = w := by
  have hb := bt_get s i hi
  have h1' : ¬ (bt s i : Int) < 128 := by omega
  have q1 : (192 : Int) ≤ (bt s i : Int) := by omega
  have q1' : ¬ (bt s i : Int) < 224 := by omega
  have q2 : (224 : Int) ≤ (bt s i : Int) := by omega
  have q2' : (bt s i : Int) < 240 := by omega
  by_cases hfit : s.size < i + 3
  · have hN : Hid (widN s i 3 (bt s i - 224) 2048 = 0) := by unfold Hid widN; rw [if_pos hfit]
    have hfit' : (s.size : Int) < (i : Int) + 3 := by omega
    go_enter Tryd.func112, Tryd.ntmps112
    go_wp2
    go_ret
    rw [hN.out]
    exact ⟨rfl, rfl⟩
  · have HN : Hid (widN s i 3 (bt s i - 224) 2048 = match widC s i 2 1 (bt s i - 224) with | none => 0 | some c => if c < 2048 ∨ 1114111 < c ∨ (55296 ≤ c ∧ c < 57344) then 0 else 3) := by unfold Hid widN; rw [if_neg hfit]; rfl
    have hfit' : ¬ (s.size : Int) < (i : Int) + 3 := by omega
    have hc0 : (bt s i : Int) - 224 = ((bt s i - 224 : Nat) : Int) := by omega
    have hc1 : bt s i - 224 < 32 := by omega
    go_enter Tryd.func112, Tryd.ntmps112
    go_wp2
    generalize hce : bt s i - 224 = c0 at *
    have HCe := hide hce
    clear hc0 hce
    go_loop [5, 8] (fun c j => ∃ (jj cc : Nat), 1 ≤ jj ∧ jj ≤ 3 ∧ j = .int .i64 jj ∧ c = .int .i64 cc ∧ (cc < 32 ∨ (2 ≤ jj ∧ cc < 2112) ∨ (3 ≤ jj ∧ cc < 135232) ∨ (4 ≤ jj ∧ cc < 8654912)) ∧ Hid (widC s i (3 - jj) jj cc = widC s i 2 1 c0)) (fun _ j => 3 - (intOf j).toNat)
    case atStart => exact ⟨1, c0, Nat.le_refl _, by decide, rfl, rfl, .inl hc1, rfl⟩
    case round =>
      obtain ⟨jj, cc, hj1, hj2, rfl, rfl, hcb, HG⟩ := hrel
      have hcc : cc < 8654912 := by omega
      have hcc' : (cc : Int) < 8654912 := by omega
      have HCb := hide hcb
      clear hcb
      by_cases hlt : jj < 3
      · have hlt' : (jj : Int) < 3 := by omega
        have hij : i + jj < s.size := by omega
        have hd := bt_get s (i + jj) hij
        have hij' : (i : Int) + (jj : Int) < (s.size : Int) := by omega
        have hto : ((i : Int) + (jj : Int)).toNat = i + jj := by omega
        have hstep : widC s i (3 - jj) jj cc = if bt s (i + jj) < 128 ∨ 192 ≤ bt s (i + jj) then none else widC s i (3 - (jj + 1)) (jj + 1) (cc * 64 + bt s (i + jj) - 128) := by
          rw [show 3 - jj = (3 - (jj + 1)) + 1 by omega, widC]
        have hdl := bt_lt s (i + jj)
        have HSt := hide hstep
        clear hstep
        by_cases hbad : bt s (i + jj) < 128 ∨ 192 ≤ bt s (i + jj)
        · have HZ : Hid (widN s i 3 c0 2048 = 0) := by
            unfold Hid
            rw [HN.out, ← HG.out, HSt.out, if_pos hbad]
          by_cases hb1 : bt s (i + jj) < 128
          · have hb1' : (bt s (i + jj) : Int) < 128 := by omega
            go_wp2
            go_ret
            rw [HCe.out, HZ.out]
            exact ⟨rfl, rfl⟩
          · have hb1' : ¬ (bt s (i + jj) : Int) < 128 := by omega
            have hb2' : (192 : Int) ≤ (bt s (i + jj) : Int) := by omega
            go_wp2
            go_ret
            rw [HCe.out, HZ.out]
            exact ⟨rfl, rfl⟩
        · have hb1' : ¬ (bt s (i + jj) : Int) < 128 := by omega
          have hb2' : ¬ (192 : Int) ≤ (bt s (i + jj) : Int) := by omega
          have HG' : Hid (widC s i (3 - (jj + 1)) (jj + 1) (cc * 64 + bt s (i + jj) - 128) = widC s i 2 1 c0) := by
            unfold Hid
            rw [← HG.out, HSt.out, if_neg hbad]
          go_wp2
          go_round
          case rel =>
            have := HCb.out
            refine ⟨jj + 1, cc * 64 + bt s (i + jj) - 128, by omega, by omega, by go_num, ?_, by omega, HG'⟩
            congr 1
            omega
          case measure => simp [intOf]; omega
      · have hjn : jj = 3 := by omega
        subst hjn
        have hgo : widC s i 2 1 c0 = some cc := by rw [← HG.out, Nat.sub_self]; rfl
        have HZ : Hid (widN s i 3 c0 2048 = if cc < 2048 ∨ 1114111 < cc ∨ (55296 ≤ cc ∧ cc < 57344) then 0 else 3) := by unfold Hid; rw [HN.out, hgo]
        clear hgo HN HG HCb
        by_cases k1 : cc < 2048
        · have k1' : (cc : Int) < 2048 := by omega
          go_wp2
          go_ret
          rw [HCe.out, HZ.out, if_pos (.inl k1)]
          exact ⟨rfl, rfl⟩
        · have k1' : ¬ (cc : Int) < 2048 := by omega
          by_cases k2 : 1114111 < cc
          · have k2' : (1114111 : Int) < (cc : Int) := by omega
            go_wp2
            go_ret
            rw [HCe.out, HZ.out, if_pos (.inr (.inl k2))]
            exact ⟨rfl, rfl⟩
          · have k2' : ¬ (1114111 : Int) < (cc : Int) := by omega
            by_cases k3 : 55296 ≤ cc
            · have k3' : (55296 : Int) ≤ (cc : Int) := by omega
              by_cases k4 : cc < 57344
              · have k4' : (cc : Int) < 57344 := by omega
                go_wp2
                go_ret
                rw [HCe.out, HZ.out, if_pos (.inr (.inr ⟨k3, k4⟩))]
                exact ⟨rfl, rfl⟩
              · have k4' : ¬ (cc : Int) < 57344 := by omega
                go_wp2
                go_ret
                rw [HCe.out, HZ.out, if_neg (by omega)]
                exact ⟨rfl, rfl⟩
            · have k3' : ¬ (55296 : Int) ≤ (cc : Int) := by omega
              go_wp2
              go_ret
              rw [HCe.out, HZ.out, if_neg (by omega)]
              exact ⟨rfl, rfl⟩

set_option maxRecDepth 100000 in
set_option maxHeartbeats 4000000 in
theorem width4 (s : ByteArray) (i : Nat) (w : World) (hi : i < s.size) (hs : s.size ≤ 2000) (l0 : 240 ≤ bt s i) (l1 : bt s i < 248) :
    Calls Tryd.prog 112 #[.string s, .int .i64 i] w fun e' w' => e' = .returned (.int .i64 (widN s i 4 (bt s i - 240) 65536)) ∧ w' = w := by
  have hb := bt_get s i hi
  have h1' : ¬ (bt s i : Int) < 128 := by omega
  have q1 : (192 : Int) ≤ (bt s i : Int) := by omega
  have q1' : ¬ (bt s i : Int) < 224 := by omega
  have q2 : (224 : Int) ≤ (bt s i : Int) := by omega
  have q2' : ¬ (bt s i : Int) < 240 := by omega
  have q3 : (240 : Int) ≤ (bt s i : Int) := by omega
  have q3' : (bt s i : Int) < 248 := by omega
  by_cases hfit : s.size < i + 4
  · have hN : Hid (widN s i 4 (bt s i - 240) 65536 = 0) := by unfold Hid widN; rw [if_pos hfit]
    have hfit' : (s.size : Int) < (i : Int) + 4 := by omega
    go_enter Tryd.func112, Tryd.ntmps112
    go_wp2
    go_ret
    rw [hN.out]
    exact ⟨rfl, rfl⟩
  · have HN : Hid (widN s i 4 (bt s i - 240) 65536 = match widC s i 3 1 (bt s i - 240) with | none => 0 | some c => if c < 65536 ∨ 1114111 < c ∨ (55296 ≤ c ∧ c < 57344) then 0 else 4) := by unfold Hid widN; rw [if_neg hfit]; rfl
    have hfit' : ¬ (s.size : Int) < (i : Int) + 4 := by omega
    have hc0 : (bt s i : Int) - 240 = ((bt s i - 240 : Nat) : Int) := by omega
    have hc1 : bt s i - 240 < 32 := by omega
    go_enter Tryd.func112, Tryd.ntmps112
    go_wp2
    generalize hce : bt s i - 240 = c0 at *
    have HCe := hide hce
    clear hc0 hce
    go_loop [5, 8] (fun c j => ∃ (jj cc : Nat), 1 ≤ jj ∧ jj ≤ 4 ∧ j = .int .i64 jj ∧ c = .int .i64 cc ∧ (cc < 32 ∨ (2 ≤ jj ∧ cc < 2112) ∨ (3 ≤ jj ∧ cc < 135232) ∨ (4 ≤ jj ∧ cc < 8654912)) ∧ Hid (widC s i (4 - jj) jj cc = widC s i 3 1 c0)) (fun _ j => 4 - (intOf j).toNat)
    case atStart => exact ⟨1, c0, Nat.le_refl _, by decide, rfl, rfl, .inl hc1, rfl⟩
    case round =>
      obtain ⟨jj, cc, hj1, hj2, rfl, rfl, hcb, HG⟩ := hrel
      have hcc : cc < 8654912 := by omega
      have hcc' : (cc : Int) < 8654912 := by omega
      have HCb := hide hcb
      clear hcb
      by_cases hlt : jj < 4
      · have hlt' : (jj : Int) < 4 := by omega
        have hij : i + jj < s.size := by omega
        have hd := bt_get s (i + jj) hij
        have hij' : (i : Int) + (jj : Int) < (s.size : Int) := by omega
        have hto : ((i : Int) + (jj : Int)).toNat = i + jj := by omega
        have hstep : widC s i (4 - jj) jj cc = if bt s (i + jj) < 128 ∨ 192 ≤ bt s (i + jj) then none else widC s i (4 - (jj + 1)) (jj + 1) (cc * 64 + bt s (i + jj) - 128) := by
          rw [show 4 - jj = (4 - (jj + 1)) + 1 by omega, widC]
        have hdl := bt_lt s (i + jj)
        have HSt := hide hstep
        clear hstep
        by_cases hbad : bt s (i + jj) < 128 ∨ 192 ≤ bt s (i + jj)
        · have HZ : Hid (widN s i 4 c0 65536 = 0) := by
            unfold Hid
            rw [HN.out, ← HG.out, HSt.out, if_pos hbad]
          by_cases hb1 : bt s (i + jj) < 128
          · have hb1' : (bt s (i + jj) : Int) < 128 := by omega
            go_wp2
            go_ret
            rw [HCe.out, HZ.out]
            exact ⟨rfl, rfl⟩
          · have hb1' : ¬ (bt s (i + jj) : Int) < 128 := by omega
            have hb2' : (192 : Int) ≤ (bt s (i + jj) : Int) := by omega
            go_wp2
            go_ret
            rw [HCe.out, HZ.out]
            exact ⟨rfl, rfl⟩
        · have hb1' : ¬ (bt s (i + jj) : Int) < 128 := by omega
          have hb2' : ¬ (192 : Int) ≤ (bt s (i + jj) : Int) := by omega
          have HG' : Hid (widC s i (4 - (jj + 1)) (jj + 1) (cc * 64 + bt s (i + jj) - 128) = widC s i 3 1 c0) := by
            unfold Hid
            rw [← HG.out, HSt.out, if_neg hbad]
          go_wp2
          go_round
          case rel =>
            have := HCb.out
            refine ⟨jj + 1, cc * 64 + bt s (i + jj) - 128, by omega, by omega, by go_num, ?_, by omega, HG'⟩
            congr 1
            omega
          case measure => simp [intOf]; omega
      · have hjn : jj = 4 := by omega
        subst hjn
        have hgo : widC s i 3 1 c0 = some cc := by rw [← HG.out, Nat.sub_self]; rfl
        have HZ : Hid (widN s i 4 c0 65536 = if cc < 65536 ∨ 1114111 < cc ∨ (55296 ≤ cc ∧ cc < 57344) then 0 else 4) := by unfold Hid; rw [HN.out, hgo]
        clear hgo HN HG HCb
        by_cases k1 : cc < 65536
        · have k1' : (cc : Int) < 65536 := by omega
          go_wp2
          go_ret
          rw [HCe.out, HZ.out, if_pos (.inl k1)]
          exact ⟨rfl, rfl⟩
        · have k1' : ¬ (cc : Int) < 65536 := by omega
          by_cases k2 : 1114111 < cc
          · have k2' : (1114111 : Int) < (cc : Int) := by omega
            go_wp2
            go_ret
            rw [HCe.out, HZ.out, if_pos (.inr (.inl k2))]
            exact ⟨rfl, rfl⟩
          · have k2' : ¬ (1114111 : Int) < (cc : Int) := by omega
            by_cases k3 : 55296 ≤ cc
            · have k3' : (55296 : Int) ≤ (cc : Int) := by omega
              by_cases k4 : cc < 57344
              · have k4' : (cc : Int) < 57344 := by omega
                go_wp2
                go_ret
                rw [HCe.out, HZ.out, if_pos (.inr (.inr ⟨k3, k4⟩))]
                exact ⟨rfl, rfl⟩
              · have k4' : ¬ (cc : Int) < 57344 := by omega
                go_wp2
                go_ret
                rw [HCe.out, HZ.out, if_neg (by omega)]
                exact ⟨rfl, rfl⟩
            · have k3' : ¬ (55296 : Int) ≤ (cc : Int) := by omega
              go_wp2
              go_ret
              rw [HCe.out, HZ.out, if_neg (by omega)]
              exact ⟨rfl, rfl⟩

set_option maxRecDepth 100000 in
set_option maxHeartbeats 4000000 in
/-- How many bytes the character at i has. -/
theorem width_any (s : ByteArray) (i : Nat) (w : World) (hi : i < s.size) (hs : s.size ≤ 2000) :
    Calls Tryd.prog 112 #[.string s, .int .i64 i] w fun e' w' => e' = .returned (.int .i64 (wid s i)) ∧ w' = w := by
  by_cases h1 : bt s i < 128
  · have hw : wid s i = 1 := by unfold wid; rw [if_pos h1]
    have hb := bt_get s i hi
    have h1' : (bt s i : Int) < 128 := by omega
    rw [hw]
    go_enter Tryd.func112, Tryd.ntmps112
    go_wp2
    go_ret
    exact ⟨rfl, rfl⟩
  · by_cases h2 : 192 ≤ bt s i ∧ bt s i < 224
    · have hw : wid s i = widN s i 2 (bt s i - 192) 128 := by unfold wid; rw [if_neg h1, if_pos h2]
      rw [hw]
      exact width2 s i w hi hs h2.1 h2.2
    · by_cases h3 : 224 ≤ bt s i ∧ bt s i < 240
      · have hw : wid s i = widN s i 3 (bt s i - 224) 2048 := by unfold wid; rw [if_neg h1, if_neg h2, if_pos h3]
        rw [hw]
        exact width3 s i w hi hs h3.1 h3.2
      · by_cases h4 : 240 ≤ bt s i ∧ bt s i < 248
        · have hw : wid s i = widN s i 4 (bt s i - 240) 65536 := by unfold wid; rw [if_neg h1, if_neg h2, if_neg h3, if_pos h4]
          rw [hw]
          exact width4 s i w hi hs h4.1 h4.2
        · have hw : wid s i = 0 := by unfold wid; rw [if_neg h1, if_neg h2, if_neg h3, if_neg h4]
          have hb := bt_get s i hi
          have hlt := bt_lt s i
          have h1' : ¬ (bt s i : Int) < 128 := by omega
          rw [hw]
          by_cases h5 : bt s i < 192
          · have q1 : ¬ (192 : Int) ≤ (bt s i : Int) := by omega
            have q2 : ¬ (224 : Int) ≤ (bt s i : Int) := by omega
            have q3 : ¬ (240 : Int) ≤ (bt s i : Int) := by omega
            go_enter Tryd.func112, Tryd.ntmps112
            go_wp2
            go_ret
            exact ⟨rfl, rfl⟩
          · have q1 : (192 : Int) ≤ (bt s i : Int) := by omega
            have q1' : ¬ (bt s i : Int) < 224 := by omega
            have q2 : (224 : Int) ≤ (bt s i : Int) := by omega
            have q2' : ¬ (bt s i : Int) < 240 := by omega
            have q3 : (240 : Int) ≤ (bt s i : Int) := by omega
            have q3' : ¬ (bt s i : Int) < 248 := by omega
            go_enter Tryd.func112, Tryd.ntmps112
            go_wp2
            go_ret
            exact ⟨rfl, rfl⟩
end Go.Proofs.YtmmflekajbeamaaDoor
