/-
  The program's cutting of a text against the document's lines and tokens, character by character.
  The document's lines and tokens: line by line is character by character.
-/
import Derived.Test.YtmmflekajbeamaaDoorT06
namespace Go.Proofs.YtmmflekajbeamaaDoor
open Go
/-- The place of the first byte that begins no character. -/
def brkGo (s : ByteArray) : Nat → Nat → Int → Int → Option (Int × Int)
  | 0, _, _, _ => none
  | f + 1, i, ln, col => if i < s.size then (if wid s i = 0 then some (ln, col) else if bt s i = 10 then brkGo s f (i + wid s i) (ln + 1) 1 else brkGo s f (i + wid s i) ln (col + 1)) else none
theorem takeS_place (s : ByteArray) (i : Nat) (r : Int) (st : CS) : (takeS s i r st).ln = (if r = 10 then st.ln + 1 else st.ln) ∧ (takeS s i r st).col = (if r = 10 then 1 else st.col + 1) := by
  have e1 : (endTokS s i st).ln = st.ln := by unfold endTokS; split <;> rfl
  unfold takeS
  by_cases h : r = 10
  · simp only [if_pos h]; exact ⟨rfl, rfl⟩
  · simp only [if_neg h]
    split
    · exact ⟨e1, rfl⟩
    · split
      · exact ⟨rfl, rfl⟩
      · split
        · exact ⟨e1, rfl⟩
        · split <;> exact ⟨rfl, rfl⟩
theorem rune_is (s : ByteArray) (p : Nat) (h : p < s.size) (hw : wid s p ≠ 0) (k : Int) (hk : k < 128) : ((Utf8.decode s p).1 : Int) = k ↔ (bt s p : Int) = k := by
  obtain ⟨_, _, _, h1, h2, _⟩ := wid_pos s p h hw
  by_cases hb : bt s p < 128
  · have := (h1 hb).1; omega
  · have := h2 (by omega); omega
theorem cut_brk (s : ByteArray) : ∀ (f p : Nat) (st : CS), (∀ pl, brkGo s f p st.ln st.col = some pl → cutGo s f p st = .inr pl) ∧ (brkGo s f p st.ln st.col = none → ∃ st', cutGo s f p st = .inl st') := by
  intro f
  induction f with
  | zero => intro p st; exact ⟨fun pl h => by simp [brkGo] at h, fun _ => ⟨st, rfl⟩⟩
  | succ f ih =>
    intro p st
    unfold brkGo cutGo
    by_cases hp : p < s.size
    · rw [if_pos hp, if_pos hp]
      by_cases hw : wid s p = 0
      · rw [if_pos hw, (wid_zero s p hw).2]
        refine ⟨fun pl h => ?_, (fun h => by cases h)⟩
        cases h; rfl
      · rw [if_neg hw]
        obtain ⟨h2, hb, _⟩ := wid_pos s p hp hw
        rw [hb, h2]
        have hr := (rune_is s p hp hw 10 (by decide)).trans (by omega : ((bt s p : Int) = 10) ↔ bt s p = 10)
        obtain ⟨t1, t2⟩ := takeS_place s p (Utf8.decode s p).1 st
        have := ih (p + wid s p) (takeS s p (Utf8.decode s p).1 st)
        rw [t1, t2] at this
        by_cases h10 : bt s p = 10
        · rw [if_pos h10]
          rw [if_pos (hr.2 h10), if_pos (hr.2 h10)] at this
          exact this
        · rw [if_neg h10]
          rw [if_neg (fun e => h10 (hr.1 e)), if_neg (fun e => h10 (hr.1 e))] at this
          exact this
    · rw [if_neg hp, if_neg hp]
      exact ⟨(fun pl h => by cases h), fun _ => ⟨st, rfl⟩⟩

/-- The document's tokens: texts and columns. -/
structure DS where
  l : List (ByteArray × Int)
  e : Int
  col : Int
  frm : Int
def d0 : DS := ⟨[], 1, 1, -1⟩
def setLast (l : List (ByteArray × Int)) (x : ByteArray) : List (ByteArray × Int) := match l.getLast? with | some (_, c) => l.dropLast ++ [(x, c)] | none => l
theorem setLast_snoc (l : List (ByteArray × Int)) (y x : ByteArray) (c : Int) : setLast (l ++ [(y, c)]) x = l ++ [(x, c)] := by simp [setLast]
def stepD (t : ByteArray) (i : Nat) (d : DS) : DS :=
  if bt t i = 32 ∨ bt t i = 9 then { d with frm := -1, col := d.col + 1 }
  else if d.frm < 0 then ⟨d.l ++ [(t.extract i (i + wid t i), d.col)], d.col + 1, d.col + 1, i⟩
  else ⟨setLast d.l (t.extract d.frm.toNat (i + wid t i)), d.col + 1, d.col + 1, d.frm⟩
def tkGo (t : ByteArray) : Nat → Nat → DS → DS
  | 0, _, d => d
  | f + 1, i, d => if i < t.size then (if bt t i = 59 then d else tkGo t f (i + wid t i) (stepD t i d)) else d
def fin (d : DS) : List (ByteArray × Int) × Int := (d.l, d.e)
def toksD (t : ByteArray) : List (ByteArray × Int) × Int := fin (tkGo t t.size 0 d0)
def lnGo (s : ByteArray) : Nat → Nat → Nat → List ByteArray
  | 0, _, a => [s.extract a s.size]
  | f + 1, i, a => if i < s.size then (if bt s i = 10 then s.extract a i :: lnGo s f (i + 1) (i + 1) else lnGo s f (i + 1) a) else [s.extract a s.size]
def linesD (s : ByteArray) : List ByteArray := lnGo s s.size 0 0

def Dgo (s : ByteArray) : Nat → Nat → Bool → DS → List (List (ByteArray × Int) × Int)
  | 0, _, _, d => [fin d]
  | f + 1, p, stop, d => if p < s.size then (if bt s p = 10 then fin d :: Dgo s f (p + 1) false d0 else if stop = true ∨ bt s p = 59 then Dgo s f (p + wid s p) true d else Dgo s f (p + wid s p) false (stepD s p d)) else [fin d]

def tm (L : List Tok) : List (ByteArray × Int) := L.map fun t => (t.text, t.fc)
def endOf (L : List Tok) : Int := match L.getLast? with | some t => t.bc | none => 1
theorem tm_snoc (L : List Tok) (t : Tok) : tm (L ++ [t]) = tm L ++ [(t.text, t.fc)] := by simp [tm]
theorem endOf_snoc (L : List Tok) (t : Tok) : endOf (L ++ [t]) = t.bc := by simp [endOf]
structure Rel (s : ByteArray) (p : Nat) (st : CS) (stop : Bool) (d : DS) : Prop where
  rem : st.rem = stop
  col : stop = false → d.col = st.col
  no : st.beg < 0 → d.l = tm st.line ∧ d.e = endOf st.line ∧ (stop = false → d.frm < 0)
  yes : 0 ≤ st.beg → stop = false ∧ d.frm = st.beg ∧ d.l = tm st.line ++ [(s.extract st.beg.toNat p, st.fc)] ∧ d.e = st.col ∧ st.fl = st.ln
  place : ∀ t ∈ st.line, t.fl = st.ln ∧ t.bl = st.ln
theorem rel_end {s : ByteArray} {p : Nat} {st : CS} {stop : Bool} {d : DS} (h : Rel s p st stop d) : fin d = (tm (endTokS s p st).line, endOf (endTokS s p st).line) ∧ (∀ t ∈ (endTokS s p st).line, t.fl = st.ln ∧ t.bl = st.ln) ∧ (endTokS s p st).beg < 0 := by
  unfold endTokS fin
  by_cases hb : 0 ≤ st.beg
  · obtain ⟨_, _, h1, h2, h3⟩ := h.yes hb
    rw [if_pos hb]
    refine ⟨?_, ?_, by show (-1 : Int) < 0; omega⟩
    · simp only [tm_snoc, endOf_snoc, h1, h2]
    · intro t ht
      rcases List.mem_append.1 ht with ht | ht
      · exact h.place t ht
      · rw [List.mem_singleton.1 ht]
        exact ⟨h3, rfl⟩
  · obtain ⟨h1, h2, _⟩ := h.no (by omega)
    rw [if_neg hb]
    exact ⟨by rw [h1, h2], h.place, by omega⟩
theorem rel0 (s : ByteArray) (p : Nat) (st : CS) (h0 : st.rem = false) (h1 : st.col = 1) (h2 : st.beg < 0) (h3 : st.line = []) : Rel s p st false d0 :=
  ⟨h0, fun _ => h1.symm, fun _ => by rw [h3]; exact ⟨rfl, rfl, fun _ => by decide⟩, fun h => by omega, fun t ht => by rw [h3] at ht; cases ht⟩

theorem sim (s : ByteArray) : ∀ (f p : Nat) (st : CS) (stop : Bool) (d : DS) (st' : CS), p ≤ s.size → s.size ≤ p + f → Rel s p st stop d → brkGo s f p st.ln st.col = none → cutGo s f p st = .inl st' →
    ∃ Ls, (endLineS s s.size st').lines = st.lines ++ Ls ∧ Ls.map (fun L => (tm L, endOf L)) = Dgo s f p stop d ∧ ∀ (i : Nat) (L : List Tok), Ls[i]? = some L → ∀ t ∈ L, t.fl = st.ln + i ∧ t.bl = st.ln + i := by
  have endd : ∀ (p : Nat) (st : CS) (stop : Bool) (d : DS), p = s.size → Rel s p st stop d →
      ∃ Ls, (endLineS s s.size st).lines = st.lines ++ Ls ∧ Ls.map (fun L => (tm L, endOf L)) = [fin d] ∧ ∀ (i : Nat) (L : List Tok), Ls[i]? = some L → ∀ t ∈ L, t.fl = st.ln + i ∧ t.bl = st.ln + i := by
    intro p st stop d hp h
    subst hp
    obtain ⟨h1, h2, _⟩ := rel_end h
    refine ⟨[(endTokS s s.size st).line], rfl, by rw [h1]; rfl, fun i L hi t ht => ?_⟩
    match i, hi with
    | 0, hi =>
      simp at hi
      subst hi
      have := h2 t ht
      simpa using this
    | i + 1, hi => simp at hi
  intro f
  induction f with
  | zero =>
    intro p st stop d st' hp hf hr _ hc
    cases hc
    exact endd p st stop d (by omega) hr
  | succ f ih =>
    intro p st stop d st' hp hf hr hv hc
    unfold cutGo at hc
    unfold Dgo
    unfold brkGo at hv
    by_cases hlt : p < s.size
    · rw [if_pos hlt] at hc hv ⊢
      by_cases hw : wid s p = 0
      · rw [if_pos hw] at hv; cases hv
      rw [if_neg hw] at hv
      obtain ⟨hw2, hb, hle, ha, hna, _⟩ := wid_pos s p hlt hw
      rw [hb, hw2] at hc
      have r10 := (rune_is s p hlt hw 10 (by decide)).trans (by omega : ((bt s p : Int) = 10) ↔ bt s p = 10)
      have r59 := (rune_is s p hlt hw 59 (by decide)).trans (by omega : ((bt s p : Int) = 59) ↔ bt s p = 59)
      have r32 := (rune_is s p hlt hw 32 (by decide)).trans (by omega : ((bt s p : Int) = 32) ↔ bt s p = 32)
      have r9 := (rune_is s p hlt hw 9 (by decide)).trans (by omega : ((bt s p : Int) = 9) ↔ bt s p = 9)
      obtain ⟨t1, t2⟩ := takeS_place s p (Utf8.decode s p).1 st
      generalize ((Utf8.decode s p).1 : Int) = r at *
      have hc' : cutGo s f (p + wid s p) (takeS s p r st) = .inl st' := hc
      by_cases h10 : bt s p = 10
      · rw [if_pos h10] at hv ⊢
        have hr10 := r10.2 h10
        have hw1 : wid s p = 1 := (ha (by omega)).2
        rw [if_pos hr10] at t1 t2
        have et : takeS s p r st = endLineS s p st := by unfold takeS; rw [if_pos hr10]
        obtain ⟨e1, e2, e3⟩ := rel_end hr
        obtain ⟨Ls, l1, l2, l3⟩ := ih (p + wid s p) (takeS s p r st) false d0 st' hle (by omega) (rel0 s _ _ (by rw [et]; rfl) (by rw [t2]) (by rw [et]; exact e3) (by rw [et]; rfl)) (by rw [t1, t2]; exact hv) hc'
        refine ⟨(endTokS s p st).line :: Ls, ?_, ?_, ?_⟩
        · rw [l1, et]
          show (st.lines ++ [(endTokS s p st).line]) ++ Ls = _
          simp
        · rw [List.map_cons, l2, e1, hw1]
        · intro i L hi t ht
          match i, hi with
          | 0, hi =>
            simp at hi
            subst hi
            have := e2 t ht
            simpa using this
          | i + 1, hi =>
            simp at hi
            have := l3 i L hi t ht
            rw [t1] at this
            omega
      · rw [if_neg h10] at hv ⊢
        have hr10 : ¬ r = 10 := fun e => h10 (r10.1 e)
        rw [if_neg hr10] at t1 t2
        have hlines : (takeS s p r st).lines = st.lines := by
          have q : (endTokS s p st).lines = st.lines := by unfold endTokS; split <;> rfl
          unfold takeS
          rw [if_neg hr10]
          split
          · exact q
          · split
            · rfl
            · split
              · exact q
              · split <;> rfl
        have go : ∀ (stop2 : Bool) (d2 : DS), Rel s (p + wid s p) (takeS s p r st) stop2 d2 → ∃ Ls, (endLineS s s.size st').lines = st.lines ++ Ls ∧ Ls.map (fun L => (tm L, endOf L)) = Dgo s f (p + wid s p) stop2 d2 ∧ ∀ (i : Nat) (L : List Tok), Ls[i]? = some L → ∀ t ∈ L, t.fl = st.ln + i ∧ t.bl = st.ln + i := by
          intro stop2 d2 h2
          have := ih (p + wid s p) (takeS s p r st) stop2 d2 st' hle (by omega) h2 (by rw [t1, t2]; exact hv) hc'
          rw [hlines, t1] at this
          exact this
        obtain ⟨e1, e2, e3⟩ := rel_end hr
        have eln : (endTokS s p st).ln = st.ln := by unfold endTokS; split <;> rfl
        have erem : (endTokS s p st).rem = st.rem := by unfold endTokS; split <;> rfl
        have ef : (d.l, d.e) = (tm (endTokS s p st).line, endOf (endTokS s p st).line) := e1
        simp only [Prod.mk.injEq] at ef
        by_cases h59 : bt s p = 59
        · rw [if_pos (.inr h59)]
          have et : takeS s p r st = { endTokS s p st with rem := true, col := st.col + 1 } := by unfold takeS; rw [if_neg hr10, if_pos (r59.2 h59)]
          refine go true d ?_
          rw [et]
          exact ⟨rfl, (fun h => by cases h), fun _ => ⟨ef.1, ef.2, (fun h => by cases h)⟩, (fun h => by have h' : 0 ≤ (endTokS s p st).beg := h; omega), fun t ht => by
            have := e2 t ht
            show t.fl = (endTokS s p st).ln ∧ t.bl = (endTokS s p st).ln
            rw [eln]; exact this⟩
        · have hr59 : ¬ r = 59 := fun e => h59 (r59.1 e)
          cases hstop : stop
          · subst hstop
            rw [if_neg (by simp [h59])]
            have hrem : ¬ st.rem = true := by rw [hr.rem]; decide
            refine go false _ ?_
            by_cases hsp : bt s p = 32 ∨ bt s p = 9
            · have hrs : r = 32 ∨ r = 9 := by rcases hsp with h | h; exact .inl (r32.2 h); exact .inr (r9.2 h)
              have et : takeS s p r st = { endTokS s p st with col := st.col + 1 } := by unfold takeS; rw [if_neg hr10, if_neg hr59, if_neg hrem, if_pos hrs]
              rw [et]
              unfold stepD
              rw [if_pos hsp]
              refine ⟨by show (endTokS s p st).rem = _; rw [erem]; exact hr.rem, fun _ => by show d.col + 1 = st.col + 1; rw [hr.col rfl], fun _ => ⟨ef.1, ef.2, fun _ => by show (-1 : Int) < 0; omega⟩, (fun h => by have h' : 0 ≤ (endTokS s p st).beg := h; omega), fun t ht => ?_⟩
              have := e2 t ht
              show t.fl = (endTokS s p st).ln ∧ t.bl = (endTokS s p st).ln
              rw [eln]; exact this
            · have hrs : ¬ (r = 32 ∨ r = 9) := fun h => hsp (by rcases h with h | h; exact .inl (r32.1 h); exact .inr (r9.1 h))
              unfold stepD
              rw [if_neg hsp]
              by_cases hbg : st.beg < 0
              · have et : takeS s p r st = { st with beg := p, fl := st.ln, fc := st.col, col := st.col + 1 } := by unfold takeS; rw [if_neg hr10, if_neg hr59, if_neg hrem, if_neg hrs, if_pos hbg]
                obtain ⟨n1, n2, n3⟩ := hr.no hbg
                rw [et, if_pos (n3 rfl)]
                refine ⟨hr.rem, fun _ => by show d.col + 1 = st.col + 1; rw [hr.col rfl], fun h => ?_, fun h => ⟨rfl, rfl, ?_, ?_, rfl⟩, hr.place⟩
                · have h' : (p : Int) < 0 := h; omega
                · show d.l ++ [(s.extract p (p + wid s p), d.col)] = tm st.line ++ [(s.extract (p : Int).toNat (p + wid s p), st.col)]
                  rw [n1, hr.col rfl, Int.toNat_natCast]
                · show d.col + 1 = st.col + 1
                  rw [hr.col rfl]
              · have et : takeS s p r st = { st with col := st.col + 1 } := by unfold takeS; rw [if_neg hr10, if_neg hr59, if_neg hrem, if_neg hrs, if_neg hbg]
                obtain ⟨y1, y2, y3, y4, y5⟩ := hr.yes (by omega)
                rw [et, if_neg (by omega)]
                refine ⟨hr.rem, fun _ => by show d.col + 1 = st.col + 1; rw [hr.col rfl], fun h => absurd h hbg, fun h => ⟨rfl, y2, ?_, ?_, y5⟩, hr.place⟩
                · show setLast d.l (s.extract d.frm.toNat (p + wid s p)) = tm st.line ++ [(s.extract st.beg.toNat (p + wid s p), st.fc)]
                  rw [y3, setLast_snoc, y2]
                · show d.col + 1 = st.col + 1
                  rw [hr.col rfl]
          · subst hstop
            rw [if_pos (.inl rfl)]
            have hrem : st.rem = true := hr.rem
            have et : takeS s p r st = { st with col := st.col + 1 } := by unfold takeS; rw [if_neg hr10, if_neg hr59, if_pos hrem]
            refine go true d ?_
            rw [et]
            have hbg : st.beg < 0 := by
              rcases Int.lt_or_le st.beg 0 with h | h
              · exact h
              · have := (hr.yes h).1; cases this
            obtain ⟨n1, n2, n3⟩ := hr.no hbg
            exact ⟨hr.rem, (fun h => by cases h), fun _ => ⟨n1, n2, (fun h => by cases h)⟩, (fun h => by have h' : 0 ≤ st.beg := h; omega), hr.place⟩
    · rw [if_neg hlt] at hc ⊢
      cases hc
      exact endd p st stop d (by omega) hr
end Go.Proofs.YtmmflekajbeamaaDoor

namespace Go.Proofs.YtmmflekajbeamaaDoor
open Go
theorem size_ext (s : ByteArray) (a b : Nat) (hb : b ≤ s.size) : (s.extract a b).size = b - a := by
  rw [ByteArray.size_extract]; omega
theorem bt_ext (s : ByteArray) (a b j : Nat) (hb : b ≤ s.size) (hj : a + j < b) : bt (s.extract a b) j = bt s (a + j) := by
  have h1 : j < (s.extract a b).size := by rw [size_ext s a b hb]; omega
  have h2 : a + j < s.size := by omega
  have e1 : (s.extract a b).get! j = (s.extract a b).data[j]! := rfl
  have e2 : s.get! (a + j) = s.data[a + j]! := rfl
  unfold bt
  rw [e1, e2, getElem!_pos (s.extract a b).data j h1, getElem!_pos s.data (a + j) h2]
  congr 1
  exact ByteArray.getElem_extract h1
theorem widC_ext (s : ByteArray) (a b i : Nat) (hb : b ≤ s.size) : ∀ (f j c : Nat), a + i + j + f ≤ b → widC (s.extract a b) i f j c = widC s (a + i) f j c := by
  intro f
  induction f with
  | zero => intro j c _; rfl
  | succ f ih =>
    intro j c h
    unfold widC
    rw [bt_ext s a b (i + j) hb (by omega), show a + (i + j) = a + i + j by omega]
    split
    · rfl
    · exact ih (j + 1) _ (by omega)
theorem widN_ext (s : ByteArray) (a b i n c least : Nat) (hb : b ≤ s.size) (hn : 0 < n) (h : a + i + n ≤ b) : widN (s.extract a b) i n c least = widN s (a + i) n c least := by
  unfold widN
  rw [size_ext s a b hb, if_neg (by omega), if_neg (by omega), widC_ext s a b i hb _ _ _ (by omega)]
theorem widN_or (s : ByteArray) (i n c least : Nat) : widN s i n c least = 0 ∨ widN s i n c least = n := by
  unfold widN
  split
  · exact .inl rfl
  · split
    · exact .inl rfl
    · split
      · exact .inl rfl
      · exact .inr rfl
theorem wid_ext (s : ByteArray) (a b i : Nat) (hb : b ≤ s.size) (hw : wid s (a + i) ≠ 0) (h : a + i + wid s (a + i) ≤ b) : wid (s.extract a b) i = wid s (a + i) := by
  have key : ∀ n c least, 0 < n → wid s (a + i) = widN s (a + i) n c least → widN (s.extract a b) i n c least = wid s (a + i) := by
    intro n c least hn e
    rcases widN_or s (a + i) n c least with h0 | h0
    · omega
    · rw [e, widN_ext s a b i n c least hb hn (by omega)]
  have hbt := bt_ext s a b i hb (by omega)
  by_cases h1 : bt s (a + i) < 128
  · unfold wid; rw [hbt, if_pos h1, if_pos h1]
  · by_cases h2 : 192 ≤ bt s (a + i) ∧ bt s (a + i) < 224
    · have e : wid s (a + i) = widN s (a + i) 2 (bt s (a + i) - 192) 128 := by unfold wid; rw [if_neg h1, if_pos h2]
      have k := key _ _ _ (by decide) e
      rw [← k]
      unfold wid; rw [hbt, if_neg h1, if_pos h2]
    · by_cases h3 : 224 ≤ bt s (a + i) ∧ bt s (a + i) < 240
      · have e : wid s (a + i) = widN s (a + i) 3 (bt s (a + i) - 224) 2048 := by unfold wid; rw [if_neg h1, if_neg h2, if_pos h3]
        have k := key _ _ _ (by decide) e
        rw [← k]
        unfold wid; rw [hbt, if_neg h1, if_neg h2, if_pos h3]
      · by_cases h4 : 240 ≤ bt s (a + i) ∧ bt s (a + i) < 248
        · have e : wid s (a + i) = widN s (a + i) 4 (bt s (a + i) - 240) 65536 := by unfold wid; rw [if_neg h1, if_neg h2, if_neg h3, if_pos h4]
          have k := key _ _ _ (by decide) e
          rw [← k]
          unfold wid; rw [hbt, if_neg h1, if_neg h2, if_neg h3, if_pos h4]
        · exact absurd (by unfold wid; rw [if_neg h1, if_neg h2, if_neg h3, if_neg h4]) hw
theorem ext_ext (s : ByteArray) (a b i j : Nat) (h : a + j ≤ b) : (s.extract a b).extract i j = s.extract (a + i) (a + j) := by
  rw [ByteArray.extract_extract, Nat.min_eq_left h]

/-- Shifts where the token at hand begins. -/
def shf (a : Nat) (d : DS) : DS := { d with frm := if d.frm < 0 then -1 else d.frm - a }
theorem step_ext (s : ByteArray) (a b p : Nat) (d : DS) (hb : b ≤ s.size) (hap : a ≤ p) (hw : wid s p ≠ 0) (h : p + wid s p ≤ b) (hf : 0 ≤ d.frm → (a : Int) ≤ d.frm) :
    stepD (s.extract a b) (p - a) (shf a d) = shf a (stepD s p d) := by
  have e : a + (p - a) = p := by omega
  have hbt := bt_ext s a b (p - a) hb (by omega)
  have hwd := wid_ext s a b (p - a) hb (by rw [e]; exact hw) (by rw [e]; exact h)
  rw [e] at hbt hwd
  unfold stepD
  rw [hbt, hwd]
  split
  · rfl
  · by_cases h0 : d.frm < 0
    · have : (shf a d).frm < 0 := by unfold shf; simp only [if_pos h0]; decide
      rw [if_pos this, if_pos h0, ext_ext s a b _ _ (by omega), e, show a + (p - a + wid s p) = p + wid s p by omega]
      unfold shf
      simp only [DS.mk.injEq]
      refine ⟨trivial, trivial, trivial, ?_⟩
      rw [if_neg (by omega)]; omega
    · have e2 : (shf a d).frm = d.frm - a := by unfold shf; simp only [if_neg h0]
      have : ¬ (shf a d).frm < 0 := by rw [e2]; have := hf (by omega); omega
      rw [if_neg this, if_neg h0, ext_ext s a b _ _ (by omega), e2, show a + (p - a + wid s p) = p + wid s p by omega, show a + (d.frm - (a : Int)).toNat = d.frm.toNat by have := hf (by omega); omega]
      unfold shf
      simp only [if_neg h0]

theorem lnGo_skip (s : ByteArray) : ∀ (n g p a : Nat), p + n ≤ s.size → (∀ j, p ≤ j → j < p + n → bt s j ≠ 10) → lnGo s (g + n) p a = lnGo s g (p + n) a := by
  intro n
  induction n with
  | zero => intro g p a _ _; rfl
  | succ n ih =>
    intro g p a hp h
    rw [show g + (n + 1) = (g + n) + 1 by omega]
    rw [lnGo, if_pos (by omega), if_neg (h p (Nat.le_refl _) (by omega)), ih g (p + 1) a (by omega) (fun j h1 h2 => h j (by omega) (by omega)), show p + 1 + n = p + (n + 1) by omega]
theorem stepD_frm (s : ByteArray) (p : Nat) (d : DS) (a : Nat) (hap : a ≤ p) (hf : 0 ≤ d.frm → (a : Int) ≤ d.frm) (hfb : d.frm ≤ p) : (0 ≤ (stepD s p d).frm → (a : Int) ≤ (stepD s p d).frm) ∧ (stepD s p d).frm ≤ p := by
  unfold stepD
  split
  · exact ⟨fun h => by simp only at h; omega, by simp only; omega⟩
  · split
    · exact ⟨fun h => by simp only; omega, by simp only; omega⟩
    · exact ⟨hf, hfb⟩

theorem dgo_lines (s : ByteArray) : ∀ (f p a : Nat) (stop : Bool) (d : DS) (ln col : Int), p ≤ s.size → a ≤ p → s.size ≤ p + f → brkGo s f p ln col = none → (0 ≤ d.frm → (a : Int) ≤ d.frm) → d.frm ≤ p →
    ∃ b rest, lnGo s (s.size - p) p a = s.extract a b :: rest ∧ p ≤ b ∧ b ≤ s.size ∧
      ∀ F, b - p ≤ F → Dgo s f p stop d = (if stop = true then fin d else fin (tkGo (s.extract a b) F (p - a) (shf a d))) :: rest.map toksD := by
  have endd : ∀ (a : Nat) (stop : Bool) (d : DS) (F : Nat), [fin d] = (if stop = true then fin d else fin (tkGo (s.extract a s.size) F (s.size - a) (shf a d))) :: ([] : List ByteArray).map toksD := by
    intro a stop d F
    cases stop
    · have : tkGo (s.extract a s.size) F (s.size - a) (shf a d) = shf a d := by
        cases F with
        | zero => rfl
        | succ F => unfold tkGo; rw [if_neg (by rw [size_ext s a s.size (Nat.le_refl _)]; omega)]
      rw [this]; rfl
    · rfl
  intro f
  induction f with
  | zero =>
    intro p a stop d ln col hp hap hf hv _ _
    have : p = s.size := by omega
    subst this
    exact ⟨s.size, [], by rw [Nat.sub_self]; rfl, Nat.le_refl _, Nat.le_refl _, fun F _ => endd a stop d F⟩
  | succ f ih =>
    intro p a stop d ln col hp hap hf hv hf1 hf2
    by_cases hlt : p < s.size
    · unfold brkGo at hv
      rw [if_pos hlt] at hv
      by_cases hw : wid s p = 0
      · rw [if_pos hw] at hv; cases hv
      rw [if_neg hw] at hv
      obtain ⟨_, _, hle, ha, _, htl⟩ := wid_pos s p hlt hw
      by_cases h10 : bt s p = 10
      · rw [if_pos h10] at hv
        have hw1 : wid s p = 1 := (ha (by omega)).2
        rw [hw1] at hv
        obtain ⟨b, rest, l1, l2, l3, l4⟩ := ih (p + 1) (p + 1) false d0 _ _ (by omega) (Nat.le_refl _) (by omega) hv (fun h => by simp [d0] at h) (by simp [d0]; omega)
        refine ⟨p, s.extract (p + 1) b :: rest, ?_, Nat.le_refl _, by omega, fun F _ => ?_⟩
        · rw [show s.size - p = (s.size - (p + 1)) + 1 by omega, lnGo, if_pos hlt, if_pos h10, l1]
        · have e2 : tkGo (s.extract a p) F (p - a) (shf a d) = shf a d := by
            cases F with
            | zero => rfl
            | succ F => unfold tkGo; rw [if_neg (by rw [size_ext s a p (by omega)]; omega)]
          have e3 := l4 (b - (p + 1)) (Nat.le_refl _)
          rw [if_neg (by decide), Nat.sub_self] at e3
          unfold Dgo
          rw [if_pos hlt, if_pos h10, e3, e2]
          have : (if stop = true then fin d else fin (shf a d)) = fin d := by split <;> rfl
          rw [this]
          congr 1
          rw [List.map_cons]
          congr 1
          unfold toksD
          rw [size_ext s (p + 1) b l3]
          rfl
      · rw [if_neg h10] at hv
        have hskip : lnGo s (s.size - p) p a = lnGo s (s.size - (p + wid s p)) (p + wid s p) a := by
          rw [show s.size - p = (s.size - (p + wid s p)) + wid s p by omega]
          refine lnGo_skip s (wid s p) _ p a hle (fun j h1 h2 => ?_)
          by_cases hj : j = p
          · rw [hj]; exact h10
          · have := htl (j - p) (by omega) (by omega)
            rw [show p + (j - p) = j by omega] at this
            omega
        by_cases hst : stop = true ∨ bt s p = 59
        · obtain ⟨b, rest, l1, l2, l3, l4⟩ := ih (p + wid s p) a true d _ _ hle (by omega) (by omega) hv hf1 (by omega)
          refine ⟨b, rest, hskip.trans l1, by omega, l3, fun F hF => ?_⟩
          have e3 := l4 (b - (p + wid s p)) (Nat.le_refl _)
          rw [if_pos rfl] at e3
          unfold Dgo
          rw [if_pos hlt, if_neg h10, if_pos hst, e3]
          congr 1
          cases stop
          · rw [if_neg (by decide)]
            have h59 : bt s p = 59 := by rcases hst with h | h; cases h; exact h
            have hlt2 : p < b := by omega
            obtain ⟨F', rfl⟩ : ∃ F', F = F' + 1 := ⟨F - 1, by omega⟩
            unfold tkGo
            rw [if_pos (by rw [size_ext s a b l3]; omega), bt_ext s a b _ l3 (by omega), show a + (p - a) = p by omega, if_pos h59]
            rfl
          · rfl
        · obtain ⟨g1, g2⟩ := stepD_frm s p d a hap hf1 hf2
          obtain ⟨b, rest, l1, l2, l3, l4⟩ := ih (p + wid s p) a false (stepD s p d) _ _ hle (by omega) (by omega) hv g1 (by omega)
          refine ⟨b, rest, hskip.trans l1, by omega, l3, fun F hF => ?_⟩
          have hs0 : stop = false := by cases stop; rfl; exact absurd (.inl rfl) hst
          subst hs0
          have h59 : ¬ bt s p = 59 := fun h => hst (.inr h)
          unfold Dgo
          rw [if_pos hlt, if_neg h10, if_neg hst, if_neg (by decide)]
          obtain ⟨F', rfl⟩ : ∃ F', F = F' + 1 := ⟨F - 1, by omega⟩
          have e3 := l4 F' (by omega)
          rw [if_neg (by decide)] at e3
          rw [e3]
          congr 2
          rw [tkGo, if_pos (by rw [size_ext s a b l3]; omega), bt_ext s a b _ l3 (by omega), show a + (p - a) = p by omega, if_neg h59, step_ext s a b p d l3 hap hw l2 hf1]
          have := wid_ext s a b (p - a) l3 (by rw [show a + (p - a) = p by omega]; exact hw) (by rw [show a + (p - a) = p by omega]; exact l2)
          rw [this, show a + (p - a) = p by omega, show p - a + wid s p = p + wid s p - a by omega]
    · have : p = s.size := by omega
      subst this
      refine ⟨s.size, [], by rw [Nat.sub_self]; rfl, Nat.le_refl _, Nat.le_refl _, fun F _ => ?_⟩
      unfold Dgo
      rw [if_neg (by omega)]
      exact endd a stop d F

/-- A valid text's lines of tokens, as the program cuts them, are the document's. -/
theorem cut_lines (s : ByteArray) (st : CS) (hv : brkGo s s.size 0 1 1 = none) (hc : cutGo s s.size 0 cs0 = .inl st) :
    (endLineS s s.size st).lines.map (fun L => (tm L, endOf L)) = (linesD s).map toksD ∧ ∀ (i : Nat) (L : List Tok), (endLineS s s.size st).lines[i]? = some L → ∀ t ∈ L, t.fl = i + 1 ∧ t.bl = i + 1 := by
  obtain ⟨Ls, l1, l2, l3⟩ := sim s s.size 0 cs0 false d0 st (Nat.zero_le _) (by omega) (rel0 s 0 cs0 rfl rfl (by decide) rfl) hv hc
  obtain ⟨b, rest, m1, m2, m3, m4⟩ := dgo_lines s s.size 0 0 false d0 1 1 (Nat.zero_le _) (Nat.zero_le _) (by omega) hv (fun h => by simp [d0] at h) (by decide)
  have e : (endLineS s s.size st).lines = Ls := by rw [l1]; rfl
  rw [e]
  constructor
  · rw [l2]
    have := m4 b (by omega)
    rw [if_neg (by decide)] at this
    rw [this]
    unfold linesD
    rw [Nat.sub_zero] at m1
    rw [m1, List.map_cons]
    congr 1
    unfold toksD
    rw [size_ext s 0 b m3]
    rfl
  · intro i L hi t ht
    have := l3 i L hi t ht
    have e1 : (cs0 : CS).ln = 1 := rfl
    rw [e1] at this
    omega
end Go.Proofs.YtmmflekajbeamaaDoor
