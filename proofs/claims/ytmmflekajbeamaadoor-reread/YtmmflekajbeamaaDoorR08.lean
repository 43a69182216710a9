/-
  Tokens are of whole characters; names by characters are names by bytes.
  The document's own answer: how many bytes a character has (width).
  An instruction's parts held against its row of the table (checkParts).
-/
import Derived.Test.YtmmflekajbeamaaDoorR07
import Derived.Test.YtmmflekajbeamaaDoorR04
import Derived.Test.YtmmflekajbeamaaDoorR06
namespace Go.Proofs.YtmmflekajbeamaaDoor
open Go
/-- Whole characters stand from a to b. -/
def Seg (s : ByteArray) (a b : Nat) : Prop := ∀ M : Nat → Prop, M a → (∀ p, M p → p < s.size → wid s p ≠ 0 → M (p + wid s p)) → M b
theorem Seg.nil {s : ByteArray} (a : Nat) : Seg s a a := fun _ h _ => h
theorem Seg.snoc {s : ByteArray} {a p : Nat} (h : Seg s a p) (hp : p < s.size) (hw : wid s p ≠ 0) : Seg s a (p + wid s p) := fun M h0 hs => hs p (h M h0 hs) hp hw
theorem Seg.ind {s : ByteArray} {a b : Nat} (h : Seg s a b) (M : Nat → Prop) (h0 : M a) (hs : ∀ p, Seg s a p → M p → p < s.size → wid s p ≠ 0 → M (p + wid s p)) : M b :=
  (h (fun x => Seg s a x ∧ M x) ⟨Seg.nil a, h0⟩ (fun p hp hlt hw => ⟨hp.1.snoc hlt hw, hs p hp.1 hp.2 hlt hw⟩)).2
theorem Seg.le {s : ByteArray} {a b : Nat} (h : Seg s a b) : a ≤ b :=
  h.ind (fun x => a ≤ x) (Nat.le_refl _) (fun _ _ ih _ _ => Nat.le_trans ih (Nat.le_add_right _ _))
theorem Seg.ext {s : ByteArray} {a b : Nat} (h : Seg s a b) : ∀ c, b ≤ c → c ≤ s.size → Seg (s.extract a c) 0 (b - a) := by
  refine h.ind (fun x => ∀ c, x ≤ c → c ≤ s.size → Seg (s.extract a c) 0 (x - a)) (fun c _ _ => by rw [Nat.sub_self]; exact Seg.nil 0) ?_
  intro p h1 ih hp hw c hc hcs
  have hle := h1.le
  have e : a + (p - a) = p := by omega
  have h2 := wid_ext s a c (p - a) hcs (by rw [e]; exact hw) (by rw [e]; exact hc)
  rw [e] at h2
  have := (ih c (by omega) hcs).snoc (by rw [size_ext s a c hcs]; omega) (by rw [h2]; exact hw)
  rw [h2] at this
  rw [show p + wid s p - a = p - a + wid s p by omega]
  exact this
/-- All of a text are characters. -/
def Val (t : ByteArray) : Prop := Seg t 0 t.size
theorem Seg.val {s : ByteArray} {a b : Nat} (h : Seg s a b) (hb : b ≤ s.size) : Val (s.extract a b) := by
  have := h.ext b (Nat.le_refl _) hb
  unfold Val
  rw [size_ext s a b hb]
  exact this
theorem Seg.cons {s : ByteArray} {a b : Nat} (h : Seg s a b) (hab : a < b) : wid s a ≠ 0 ∧ a < s.size ∧ Seg s (a + wid s a) b := by
  have key : a < b → wid s a ≠ 0 ∧ a < s.size ∧ Seg s (a + wid s a) b := by
    refine h.ind (fun x => a < x → wid s a ≠ 0 ∧ a < s.size ∧ Seg s (a + wid s a) x) (fun h0 => by omega) ?_
    intro p h1 ih hp hw _
    by_cases hpa : a = p
    · subst hpa
      exact ⟨hw, hp, Seg.nil _⟩
    · obtain ⟨i1, i2, i3⟩ := ih (by have := h1.le; omega)
      exact ⟨i1, i2, i3.snoc hp hw⟩
  exact key hab
theorem Seg.last {s : ByteArray} {a b : Nat} (h : Seg s a b) : a = b ∨ ∃ p, Seg s a p ∧ p < s.size ∧ wid s p ≠ 0 ∧ b = p + wid s p :=
  h.ind (fun x => a = x ∨ ∃ p, Seg s a p ∧ p < s.size ∧ wid s p ≠ 0 ∧ x = p + wid s p) (.inl rfl) (fun p h1 _ hp hw => .inr ⟨p, h1, hp, hw, rfl⟩)
/-- A text of characters whose last byte is a colon: without it, it is one too. -/
theorem Val.cut {t : ByteArray} (h : Val t) (h1 : 1 ≤ t.size) (hc : bt t (t.size - 1) < 128) : Val (t.extract 0 (t.size - 1)) := by
  have key : Seg t 0 (t.size - 1) := by
    rcases Seg.last h with h0 | ⟨p, h2, hp, hw, hn⟩
    · omega
    · obtain ⟨_, _, _, _, _, htl⟩ := wid_pos t p hp hw
      have hw1 : wid t p = 1 := by
        rcases Nat.lt_or_ge 1 (wid t p) with hgt | hle
        · have := htl (wid t p - 1) (by omega) (by omega)
          rw [show p + (wid t p - 1) = t.size - 1 by omega] at this
          omega
        · omega
      rw [hn, hw1, show p + 1 - 1 = p by omega]
      exact h2
  exact Seg.val key (by omega)

/-- Every token is of whole characters, and is not empty. -/
def TokOK (t : Tok) : Prop := Val t.text ∧ 1 ≤ t.text.size ∧ t.text.size ≤ 2000 ∧ 1 ≤ t.fc
theorem tok_ok {s : ByteArray} {a p : Nat} (h : Seg s a p) (hap : a < p) (hp : p ≤ s.size) (hs : s.size ≤ 2000) (f1 f2 f3 f4 : Int) (hf : 1 ≤ f2) : TokOK ⟨s.extract a p, f1, f2, f3, f4⟩ :=
  ⟨h.val hp, by show 1 ≤ (s.extract a p).size; rw [size_ext s a p hp]; omega, by show (s.extract a p).size ≤ 2000; rw [size_ext s a p hp]; omega, hf⟩
structure CutOK (s : ByteArray) (p : Nat) (st : CS) : Prop where
  beg : 0 ≤ st.beg → st.beg < p ∧ Seg s st.beg.toNat p ∧ 1 ≤ st.fc
  col : 1 ≤ st.col
  line : ∀ t ∈ st.line, TokOK t
  lines : ∀ L ∈ st.lines, ∀ t ∈ L, TokOK t
theorem CutOK.endTok {s : ByteArray} {p : Nat} {st : CS} (h : CutOK s p st) (hp : p ≤ s.size) (hs : s.size ≤ 2000) (q : Nat) : CutOK s q (endTokS s p st) := by
  unfold endTokS
  by_cases hb : 0 ≤ st.beg
  · rw [if_pos hb]
    obtain ⟨b1, b2, b3⟩ := h.beg hb
    refine ⟨fun h0 => by simp only at h0; omega, h.col, fun t ht => ?_, h.lines⟩
    rcases List.mem_append.1 ht with ht | ht
    · exact h.line t ht
    · rw [List.mem_singleton.1 ht]
      exact tok_ok b2 (by omega) hp hs _ _ _ _ b3
  · rw [if_neg hb]
    exact ⟨fun h0 => absurd h0 hb, h.col, h.line, h.lines⟩
theorem CutOK.endLine {s : ByteArray} {p : Nat} {st : CS} (h : CutOK s p st) (hp : p ≤ s.size) (hs : s.size ≤ 2000) (q : Nat) : CutOK s q (endLineS s p st) := by
  have k := h.endTok hp hs q
  refine ⟨k.beg, by show (1 : Int) ≤ 1; omega, (fun t ht => by cases ht), fun L hL => ?_⟩
  rcases List.mem_append.1 hL with hL | hL
  · exact h.lines L hL
  · rw [List.mem_singleton.1 hL]
    exact k.line
theorem CutOK.take {s : ByteArray} {p : Nat} {st : CS} (h : CutOK s p st) (hp : p < s.size) (hs : s.size ≤ 2000) (hw : wid s p ≠ 0) (r : Int) : CutOK s (p + wid s p) (takeS s p r st) := by
  have k := h.endTok (by omega) hs (p + wid s p)
  have sg : ∀ a, Seg s a p → Seg s a (p + wid s p) := fun a ha => .snoc ha hp hw
  have b' : 0 ≤ st.beg → st.beg < (p + wid s p : Nat) ∧ Seg s st.beg.toNat (p + wid s p) ∧ 1 ≤ st.fc := fun h0 => ⟨by have := (h.beg h0).1; omega, sg _ (h.beg h0).2.1, (h.beg h0).2.2⟩
  have hc : (1 : Int) ≤ st.col + 1 := by have := h.col; omega
  unfold takeS
  split
  · exact h.endLine (by omega) hs _
  · split
    · exact ⟨k.beg, hc, k.line, k.lines⟩
    · split
      · exact ⟨b', hc, h.line, h.lines⟩
      · split
        · exact ⟨k.beg, hc, k.line, k.lines⟩
        · split
          · exact ⟨fun _ => ⟨by simp only; omega, by simp only [Int.toNat_natCast]; exact sg p (.nil p), h.col⟩, hc, h.line, h.lines⟩
          · exact ⟨b', hc, h.line, h.lines⟩
theorem cut_ok (s : ByteArray) (hs : s.size ≤ 2000) : ∀ (f p : Nat) (st st' : CS) (ln col : Int), p ≤ s.size → s.size ≤ p + f → CutOK s p st → brkGo s f p ln col = none → cutGo s f p st = .inl st' → ∀ L ∈ (endLineS s s.size st').lines, ∀ t ∈ L, TokOK t := by
  intro f
  induction f with
  | zero =>
    intro p st st' ln col hp hf h _ hc
    cases hc
    have : p = s.size := by omega
    subst this
    exact (h.endLine (Nat.le_refl _) hs 0).lines
  | succ f ih =>
    intro p st st' ln col hp hf h hv hc
    unfold cutGo at hc
    unfold brkGo at hv
    by_cases hlt : p < s.size
    · rw [if_pos hlt] at hc hv
      by_cases hw : wid s p = 0
      · rw [if_pos hw] at hv; cases hv
      rw [if_neg hw] at hv
      obtain ⟨hw2, hb, hle, _⟩ := wid_pos s p hlt hw
      rw [hb, hw2, if_neg (by decide)] at hc
      by_cases h10 : bt s p = 10
      · rw [if_pos h10] at hv
        exact ih _ _ _ _ _ hle (by omega) (h.take hlt hs hw _) hv hc
      · rw [if_neg h10] at hv
        exact ih _ _ _ _ _ hle (by omega) (h.take hlt hs hw _) hv hc
    · rw [if_neg hlt] at hc
      cases hc
      have : p = s.size := by omega
      subst this
      exact (h.endLine (Nat.le_refl _) hs 0).lines

/-- The document's name, by bytes. -/
def letC (c : Nat) : Bool := decide (c = 95 ∨ (97 ≤ c ∧ c ≤ 122) ∨ (65 ≤ c ∧ c ≤ 90) ∨ 128 ≤ c)
def ndGo (t : ByteArray) : Nat → Nat → Nat → Option Nat
  | 0, _, n => some n
  | f + 1, i, n => if i < t.size then (if letC (bt t i) || (decide (0 < i) && decide (48 ≤ bt t i ∧ bt t i ≤ 57)) then ndGo t f (i + wid t i) (n + 1) else none) else some n
theorem name_go (t : ByteArray) : ∀ (f i n : Nat), Seg t i t.size → (i = 0 ↔ n = 0) → nameGo t f i n = ndGo t f i n := by
  intro f
  induction f with
  | zero => intro i n _ _; rfl
  | succ f ih =>
    intro i n hs hn
    unfold nameGo ndGo
    by_cases hi : i < t.size
    · rw [if_pos hi, if_pos hi]
      obtain ⟨hw, _, hs'⟩ := hs.cons hi
      obtain ⟨w1, _, _, w2, w3, _⟩ := wid_pos t i hi hw
      have e : (letB (Utf8.decode t i).1 || (decide (0 < n) && decide (48 ≤ (Utf8.decode t i).1 ∧ (Utf8.decode t i).1 ≤ 57))) = (letC (bt t i) || (decide (0 < i) && decide (48 ≤ bt t i ∧ bt t i ≤ 57))) := by
        rw [Bool.eq_iff_iff]
        unfold letB letC
        simp only [Bool.or_eq_true, Bool.and_eq_true, decide_eq_true_eq]
        by_cases hb : bt t i < 128
        · have := (w2 hb).1; omega
        · have := w3 (by omega); omega
      rw [e, w1]
      split
      · exact ih _ _ hs' (by omega)
      · rfl
    · rw [if_neg hi, if_neg hi]
end Go.Proofs.YtmmflekajbeamaaDoor

namespace Go.Proofs.YtmmflekajbeamaaDoor
open Go.RowKit

theorem bt_get (s : ByteArray) (i : Nat) (h : i < s.size) : (s[i]'h).toNat = bt s i := by
  have e : s.get! i = s.data[i]! := rfl
  unfold bt
  rw [e, getElem!_pos s.data i h]
  rfl

set_option maxRecDepth 100000 in
set_option maxHeartbeats 4000000 in
theorem width2 (s : ByteArray) (i : Nat) (w : World) (hi : i < s.size) (hs : s.size ≤ 2000) (l0 : 192 ≤ bt s i) (l1 : bt s i < 224) :
    Calls Tryd.prog 112 #[.string s, .int .i64 i] w fun e' w' => e' = .returned (.int .i64 (widN s i 2 (bt s i - 192) 128)) ∧ w' = w := by
  have hb := bt_get s i hi
  have h1' : ¬ (bt s i : Int) < 128 := by omega
  have q1 : (192 : Int) ≤ (bt s i : Int) := by omega
  have q1' : (bt s i : Int) < 224 := by omega
  by_cases hfit : s.size < i + 2
  · have hN : Hid (widN s i 2 (bt s i - 192) 128 = 0) := by unfold Hid widN; rw [if_pos hfit]
    have hfit' : (s.size : Int) < (i : Int) + 2 := by omega
    go_enter Tryd.func112, Tryd.ntmps112
    go_wp2
    go_ret
    rw [hN.out]
    exact ⟨rfl, rfl⟩
  · have HN : Hid (widN s i 2 (bt s i - 192) 128 = match widC s i 1 1 (bt s i - 192) with | none => 0 | some c => if c < 128 ∨ 1114111 < c ∨ (55296 ≤ c ∧ c < 57344) then 0 else 2) := by unfold Hid widN; rw [if_neg hfit]; rfl
    have hfit' : ¬ (s.size : Int) < (i : Int) + 2 := by omega
    have hc0 : (bt s i : Int) - 192 = ((bt s i - 192 : Nat) : Int) := by omega
    have hc1 : bt s i - 192 < 32 := by omega
    go_enter Tryd.func112, Tryd.ntmps112
    go_wp2
    generalize hce : bt s i - 192 = c0 at *
    have HCe := hide hce
    clear hc0 hce
    go_loop [5, 8] (fun c j => ∃ (jj cc : Nat), 1 ≤ jj ∧ jj ≤ 2 ∧ j = .int .i64 jj ∧ c = .int .i64 cc ∧ (cc < 32 ∨ (2 ≤ jj ∧ cc < 2112) ∨ (3 ≤ jj ∧ cc < 135232) ∨ (4 ≤ jj ∧ cc < 8654912)) ∧ Hid (widC s i (2 - jj) jj cc = widC s i 1 1 c0)) (fun _ j => 2 - (intOf j).toNat)
    case atStart => exact ⟨1, c0, Nat.le_refl _, by decide, rfl, rfl, .inl hc1, rfl⟩
    case round =>
      obtain ⟨jj, cc, hj1, hj2, rfl, rfl, hcb, HG⟩ := hrel
      have hcc : cc < 8654912 := by omega
      have hcc' : (cc : Int) < 8654912 := by omega
      have HCb := hide hcb
      clear hcb
      by_cases hlt : jj < 2
      · have hlt' : (jj : Int) < 2 := by omega
        have hij : i + jj < s.size := by omega
        have hd := bt_get s (i + jj) hij
        have hij' : (i : Int) + (jj : Int) < (s.size : Int) := by omega
        have hto : ((i : Int) + (jj : Int)).toNat = i + jj := by omega
        have hstep : widC s i (2 - jj) jj cc = if bt s (i + jj) < 128 ∨ 192 ≤ bt s (i + jj) then none else widC s i (2 - (jj + 1)) (jj + 1) (cc * 64 + bt s (i + jj) - 128) := by
          rw [show 2 - jj = (2 - (jj + 1)) + 1 by omega, widC]
        have hdl := bt_lt s (i + jj)
        have HSt := hide hstep
        clear hstep
        by_cases hbad : bt s (i + jj) < 128 ∨ 192 ≤ bt s (i + jj)
        · have HZ : Hid (widN s i 2 c0 128 = 0) := by
            unfold Hid
            rw [HN.out, ← HG.out, HSt.out, if_pos hbad]
          by_cases hb1 : bt s (i + jj) < 128
          · have hb1' : (bt s (i + jj) : Int) < 128 := by omega
            go_wp2
            go_ret
            rw [HCe.out, HZ.out]
            exact ⟨rfl, rfl⟩
          · have hb1' : ¬ (bt s (i + jj) : Int) < 128 := by omega
            have hb2' : (192 : Int) ≤ (bt s (i + jj) : Int) := by omega
            go_wp2
            go_ret
            rw [HCe.out, HZ.out]
            exact ⟨rfl, rfl⟩
        · have hb1' : ¬ (bt s (i + jj) : Int) < 128 := by omega
          have hb2' : ¬ (192 : Int) ≤ (bt s (i + jj) : Int) := by omega
          have HG' : Hid (widC s i (2 - (jj + 1)) (jj + 1) (cc * 64 + bt s (i + jj) - 128) = widC s i 1 1 c0) := by
            unfold Hid
            rw [← HG.out, HSt.out, if_neg hbad]
          go_wp2
          go_round
          case rel =>
            have := HCb.out
            refine ⟨jj + 1, cc * 64 + bt s (i + jj) - 128, by omega, by omega, by go_num, ?_, by omega, HG'⟩
            congr 1
            omega
          case measure => simp [intOf]; omega
      · have hjn : jj = 2 := by omega
        subst hjn
        have hgo : widC s i 1 1 c0 = some cc := by rw [← HG.out, Nat.sub_self]; rfl
        have HZ : Hid (widN s i 2 c0 128 = if cc < 128 ∨ 1114111 < cc ∨ (55296 ≤ cc ∧ cc < 57344) then 0 else 2) := by unfold Hid; rw [HN.out, hgo]
        clear hgo HN HG HCb
        by_cases k1 : cc < 128
        · have k1' : (cc : Int) < 128 := by omega
          go_wp2
          go_ret
          rw [HCe.out, HZ.out, if_pos (.inl k1)]
          exact ⟨rfl, rfl⟩
        · have k1' : ¬ (cc : Int) < 128 := by omega
          by_cases k2 : 1114111 < cc
          · have k2' : (1114111 : Int) < (cc : Int) := by omega
            go_wp2
            go_ret
            rw [HCe.out, HZ.out, if_pos (.inr (.inl k2))]
            exact ⟨rfl, rfl⟩
          · have k2' : ¬ (1114111 : Int) < (cc : Int) := by omega
            by_cases k3 : 55296 ≤ cc
            · have k3' : (55296 : Int) ≤ (cc : Int) := by omega
              by_cases k4 : cc < 57344
              · have k4' : (cc : Int) < 57344 := by omega
                go_wp2
                go_ret
                rw [HCe.out, HZ.out, if_pos (.inr (.inr ⟨k3, k4⟩))]
                exact ⟨rfl, rfl⟩
              · have k4' : ¬ (cc : Int) < 57344 := by omega
                go_wp2
                go_ret
                rw [HCe.out, HZ.out, if_neg (by omega)]
                exact ⟨rfl, rfl⟩
            · have k3' : ¬ (55296 : Int) ≤ (cc : Int) := by omega
              go_wp2
              go_ret
              rw [HCe.out, HZ.out, if_neg (by omega)]
              exact ⟨rfl, rfl⟩

set_option maxRecDepth 100000 in
set_option maxHeartbeats 4000000 in
theorem width3 (s : ByteArray) (i : Nat) (w : World) (hi : i < s.size) (hs : s.size ≤ 2000) (l0 : 224 ≤ bt s i) (l1 : bt s i < 240) :
    Calls Tryd.prog 112 #[.string s, .int .i64 i] w fun e' w' => e' = .returned (.int .i64 (widN s i 3 (bt s i - 224) 2048)) ∧ w' = w := by
  have hb := bt_get s i hi
  have h1' : ¬ (bt s i : Int) < 128 := by omega
  have q1 : (192 : Int) ≤ (bt s i : Int) := by omega
  have q1' : ¬ (bt s i : Int) < 224 := by omega
  have q2 : (224 : Int) ≤ (bt s i : Int) := by omega
  have q2' : (bt s i : Int) < 240 := by omega
  by_cases hfit : s.size < i + 3
  · have hN : Hid (widN s i 3 (bt s i - 224) 2048 = 0) := by unfold Hid widN; rw [if_pos hfit]
    have hfit' : (s.size : Int) < (i : Int) + 3 := by omega
    go_enter Tryd.func112, Tryd.ntmps112
    go_wp2
    go_ret
    rw [hN.out]
    exact ⟨rfl, rfl⟩
  · have HN : Hid (widN s i 3 (bt s i - 224) 2048 = match widC s i 2 1 (bt s i - 224) with | none => 0 | some c => if c < 2048 ∨ 1114111 < c ∨ (55296 ≤ c ∧ c < 57344) then 0 else 3) := by unfold Hid widN; rw [if_neg hfit]; rfl
    have hfit' : ¬ (s.size : Int) < (i : Int) + 3 := by omega
    have hc0 : (bt s i : Int) - 224 = ((bt s i - 224 : Nat) : Int) := by omega
    have hc1 : bt s i - 224 < 32 := by omega
    go_enter Tryd.func112, Tryd.ntmps112
    go_wp2
    generalize hce : bt s i - 224 = c0 at *
    have HCe := hide hce
    clear hc0 hce
    go_loop [5, 8] (fun c j => ∃ (jj cc : Nat), 1 ≤ jj ∧ jj ≤ 3 ∧ j = .int .i64 jj ∧ c = .int .i64 cc ∧ (cc < 32 ∨ (2 ≤ jj ∧ cc < 2112) ∨ (3 ≤ jj ∧ cc < 135232) ∨ (4 ≤ jj ∧ cc < 8654912)) ∧ Hid (widC s i (3 - jj) jj cc = widC s i 2 1 c0)) (fun _ j => 3 - (intOf j).toNat)
    case atStart => exact ⟨1, c0, Nat.le_refl _, by decide, rfl, rfl, .inl hc1, rfl⟩
    case round =>
      obtain ⟨jj, cc, hj1, hj2, rfl, rfl, hcb, HG⟩ := hrel
      have hcc : cc < 8654912 := by omega
      have hcc' : (cc : Int) < 8654912 := by omega
      have HCb := hide hcb
      clear hcb
      by_cases hlt : jj < 3
      · have hlt' : (jj : Int) < 3 := by omega
        have hij : i + jj < s.size := by omega
        have hd := bt_get s (i + jj) hij
        have hij' : (i : Int) + (jj : Int) < (s.size : Int) := by omega
        have hto : ((i : Int) + (jj : Int)).toNat = i + jj := by omega
        have hstep : widC s i (3 - jj) jj cc = if bt s (i + jj) < 128 ∨ 192 ≤ bt s (i + jj) then none else widC s i (3 - (jj + 1)) (jj + 1) (cc * 64 + bt s (i + jj) - 128) := by
          rw [show 3 - jj = (3 - (jj + 1)) + 1 by omega, widC]
        have hdl := bt_lt s (i + jj)
        have HSt := hide hstep
        clear hstep
        by_cases hbad : bt s (i + jj) < 128 ∨ 192 ≤ bt s (i + jj)
        · have HZ : Hid (widN s i 3 c0 2048 = 0) := by
            unfold Hid
            rw [HN.out, ← HG.out, HSt.out, if_pos hbad]
          by_cases hb1 : bt s (i + jj) < 128
          · have hb1' : (bt s (i + jj) : Int) < 128 := by omega
            go_wp2
            go_ret
            rw [HCe.out, HZ.out]
            exact ⟨rfl, rfl⟩
          · have hb1' : ¬ (bt s (i + jj) : Int) < 128 := by omega
            have hb2' : (192 : Int) ≤ (bt s (i + jj) : Int) := by omega
            go_wp2
            go_ret
            rw [HCe.out, HZ.out]
            exact ⟨rfl, rfl⟩
        · have hb1' : ¬ (bt s (i + jj) : Int) < 128 := by omega
          have hb2' : ¬ (192 : Int) ≤ (bt s (i + jj) : Int) := by omega
          have HG' : Hid (widC s i (3 - (jj + 1)) (jj + 1) (cc * 64 + bt s (i + jj) - 128) = widC s i 2 1 c0) := by
            unfold Hid
            rw [← HG.out, HSt.out, if_neg hbad]
          go_wp2
          go_round
          case rel =>
            have := HCb.out
            refine ⟨jj + 1, cc * 64 + bt s (i + jj) - 128, by omega, by omega, by go_num, ?_, by omega, HG'⟩
            congr 1
            omega
          case measure => simp [intOf]; omega
      · have hjn : jj = 3 := by omega
        subst hjn
        have hgo : widC s i 2 1 c0 = some cc := by rw [← HG.out, Nat.sub_self]; rfl
        have HZ : Hid (widN s i 3 c0 2048 = if cc < 2048 ∨ 1114111 < cc ∨ (55296 ≤ cc ∧ cc < 57344) then 0 else 3) := by unfold Hid; rw [HN.out, hgo]
        clear hgo HN HG HCb
        by_cases k1 : cc < 2048
        · have k1' : (cc : Int) < 2048 := by omega
          go_wp2
          go_ret
          rw [HCe.out, HZ.out, if_pos (.inl k1)]
          exact ⟨rfl, rfl⟩
        · have k1' : ¬ (cc : Int) < 2048 := by omega
          by_cases k2 : 1114111 < cc
          · have k2' : (1114111 : Int) < (cc : Int) := by omega
            go_wp2
            go_ret
            rw [HCe.out, HZ.out, if_pos (.inr (.inl k2))]
            exact ⟨rfl, rfl⟩
          · have k2' : ¬ (1114111 : Int) < (cc : Int) := by omega
            by_cases k3 : 55296 ≤ cc
            · have k3' : (55296 : Int) ≤ (cc : Int) := by omega
              by_cases k4 : cc < 57344
              · have k4' : (cc : Int) < 57344 := by omega
                go_wp2
                go_ret
                rw [HCe.out, HZ.out, if_pos (.inr (.inr ⟨k3, k4⟩))]
                exact ⟨rfl, rfl⟩
              · have k4' : ¬ (cc : Int) < 57344 := by omega
                go_wp2
                go_ret
                rw [HCe.out, HZ.out, if_neg (by omega)]
                exact ⟨rfl, rfl⟩
            · have k3' : ¬ (55296 : Int) ≤ (cc : Int) := by omega
              go_wp2
              go_ret
              rw [HCe.out, HZ.out, if_neg (by omega)]
              exact ⟨rfl, rfl⟩

set_option maxRecDepth 100000 in
set_option maxHeartbeats 4000000 in
theorem width4 (s : ByteArray) (i : Nat) (w : World) (hi : i < s.size) (hs : s.size ≤ 2000) (l0 : 240 ≤ bt s i) (l1 : bt s i < 248) :
    Calls Tryd.prog 112 #[.string s, .int .i64 i] w fun e' w' => e' = .returned (.int .i64 (widN s i 4 (bt s i - 240) 65536)) ∧ w' = w := by
  have hb := bt_get s i hi
  have h1' : ¬ (bt s i : Int) < 128 := by omega
  have q1 : (192 : Int) ≤ (bt s i : Int) := by omega
  have q1' : ¬ (bt s i : Int) < 224 := by omega
  have q2 : (224 : Int) ≤ (bt s i : Int) := by omega
  have q2' : ¬ (bt s i : Int) < 240 := by omega
  have q3 : (240 : Int) ≤ (bt s i : Int) := by omega
  have q3' : (bt s i : Int) < 248 := by omega
  by_cases hfit : s.size < i + 4
  · have hN : Hid (widN s i 4 (bt s i - 240) 65536 = 0) := by unfold Hid widN; rw [if_pos hfit]
    have hfit' : (s.size : Int) < (i : Int) + 4 := by omega
    go_enter Tryd.func112, Tryd.ntmps112
    go_wp2
    go_ret
    rw [hN.out]
    exact ⟨rfl, rfl⟩
  · have HN : Hid (widN s i 4 (bt s i - 240) 65536 = match widC s i 3 1 (bt s i - 240) with | none => 0 | some c => if c < 65536 ∨ 1114111 < c ∨ (55296 ≤ c ∧ c < 57344) then 0 else 4) := by unfold Hid widN; rw [if_neg hfit]; rfl
    have hfit' : ¬ (s.size : Int) < (i : Int) + 4 := by omega
    have hc0 : (bt s i : Int) - 240 = ((bt s i - 240 : Nat) : Int) := by omega
    have hc1 : bt s i - 240 < 32 := by omega
    go_enter Tryd.func112, Tryd.ntmps112
    go_wp2
    generalize hce : bt s i - 240 = c0 at *
    have HCe := hide hce
    clear hc0 hce
    go_loop [5, 8] (fun c j => ∃ (jj cc : Nat), 1 ≤ jj ∧ jj ≤ 4 ∧ j = .int .i64 jj ∧ c = .int .i64 cc ∧ (cc < 32 ∨ (2 ≤ jj ∧ cc < 2112) ∨ (3 ≤ jj ∧ cc < 135232) ∨ (4 ≤ jj ∧ cc < 8654912)) ∧ Hid (widC s i (4 - jj) jj cc = widC s i 3 1 c0)) (fun _ j => 4 - (intOf j).toNat)
    case atStart => exact ⟨1, c0, Nat.le_refl _, by decide, rfl, rfl, .inl hc1, rfl⟩
    case round =>
      obtain ⟨jj, cc, hj1, hj2, rfl, rfl, hcb, HG⟩ := hrel
      have hcc : cc < 8654912 := by omega
      have hcc' : (cc : Int) < 8654912 := by omega
      have HCb := hide hcb
      clear hcb
      by_cases hlt : jj < 4
      · have hlt' : (jj : Int) < 4 := by omega
        have hij : i + jj < s.size := by omega
        have hd := bt_get s (i + jj) hij
        have hij' : (i : Int) + (jj : Int) < (s.size : Int) := by omega
        have hto : ((i : Int) + (jj : Int)).toNat = i + jj := by omega
        have hstep : widC s i (4 - jj) jj cc = if bt s (i + jj) < 128 ∨ 192 ≤ bt s (i + jj) then none else widC s i (4 - (jj + 1)) (jj + 1) (cc * 64 + bt s (i + jj) - 128) := by
          rw [show 4 - jj = (4 - (jj + 1)) + 1 by omega, widC]
        have hdl := bt_lt s (i + jj)
        have HSt := hide hstep
        clear hstep
        by_cases hbad : bt s (i + jj) < 128 ∨ 192 ≤ bt s (i + jj)
        · have HZ : Hid (widN s i 4 c0 65536 = 0) := by
            unfold Hid
            rw [HN.out, ← HG.out, HSt.out, if_pos hbad]
          by_cases hb1 : bt s (i + jj) < 128
          · have hb1' : (bt s (i + jj) : Int) < 128 := by omega
            go_wp2
            go_ret
            rw [HCe.out, HZ.out]
            exact ⟨rfl, rfl⟩
          · have hb1' : ¬ (bt s (i + jj) : Int) < 128 := by omega
            have hb2' : (192 : Int) ≤ (bt s (i + jj) : Int) := by omega
            go_wp2
            go_ret
            rw [HCe.out, HZ.out]
            exact ⟨rfl, rfl⟩
        · have hb1' : ¬ (bt s (i + jj) : Int) < 128 := by omega
          have hb2' : ¬ (192 : Int) ≤ (bt s (i + jj) : Int) := by omega
          have HG' : Hid (widC s i (4 - (jj + 1)) (jj + 1) (cc * 64 + bt s (i + jj) - 128) = widC s i 3 1 c0) := by
            unfold Hid
            rw [← HG.out, HSt.out, if_neg hbad]
          go_wp2
          go_round
          case rel =>
            have := HCb.out
            refine ⟨jj + 1, cc * 64 + bt s (i + jj) - 128, by omega, by omega, by go_num, ?_, by omega, HG'⟩
            congr 1
            omega
          case measure => simp [intOf]; omega
      · have hjn : jj = 4 := by omega
        subst hjn
        have hgo : widC s i 3 1 c0 = some cc := by rw [← HG.out, Nat.sub_self]; rfl
        have HZ : Hid (widN s i 4 c0 65536 = if cc < 65536 ∨ 1114111 < cc ∨ (55296 ≤ cc ∧ cc < 57344) then 0 else 4) := by unfold Hid; rw [HN.out, hgo]
        clear hgo HN HG HCb
        by_cases k1 : cc < 65536
        · have k1' : (cc : Int) < 65536 := by omega
          go_wp2
          go_ret
          rw [HCe.out, HZ.out, if_pos (.inl k1)]
          exact ⟨rfl, rfl⟩
        · have k1' : ¬ (cc : Int) < 65536 := by omega
          by_cases k2 : 1114111 < cc
          · have k2' : (1114111 : Int) < (cc : Int) := by omega
            go_wp2
            go_ret
            rw [HCe.out, HZ.out, if_pos (.inr (.inl k2))]
            exact ⟨rfl, rfl⟩
          · have k2' : ¬ (1114111 : Int) < (cc : Int) := by omega
            by_cases k3 : 55296 ≤ cc
            · have k3' : (55296 : Int) ≤ (cc : Int) := by omega
              by_cases k4 : cc < 57344
              · have k4' : (cc : Int) < 57344 := by omega
                go_wp2
                go_ret
                rw [HCe.out, HZ.out, if_pos (.inr (.inr ⟨k3, k4⟩))]
                exact ⟨rfl, rfl⟩
              · have k4' : ¬ (cc : Int) < 57344 := by omega
                go_wp2
                go_ret
                rw [HCe.out, HZ.out, if_neg (by omega)]
                exact ⟨rfl, rfl⟩
            · have k3' : ¬ (55296 : Int) ≤ (cc : Int) := by omega
              go_wp2
              go_ret
              rw [HCe.out, HZ.out, if_neg (by omega)]
              exact ⟨rfl, rfl⟩

set_option maxRecDepth 100000 in
set_option maxHeartbeats 4000000 in
/-- How many bytes the character at i has. -/
theorem width_any (s : ByteArray) (i : Nat) (w : World) (hi : i < s.size) (hs : s.size ≤ 2000) :
    Calls Tryd.prog 112 #[.string s, .int .i64 i] w fun e' w' => e' = .returned (.int .i64 (wid s i)) ∧ w' = w := by
  by_cases h1 : bt s i < 128
  · have hw : wid s i = 1 := by unfold wid; rw [if_pos h1]
    have hb := bt_get s i hi
    have h1' : (bt s i : Int) < 128 := by omega
    rw [hw]
    go_enter Tryd.func112, Tryd.ntmps112
    go_wp2
    go_ret
    exact ⟨rfl, rfl⟩
  · by_cases h2 : 192 ≤ bt s i ∧ bt s i < 224
    · have hw : wid s i = widN s i 2 (bt s i - 192) 128 := by unfold wid; rw [if_neg h1, if_pos h2]
      rw [hw]
      exact width2 s i w hi hs h2.1 h2.2
    · by_cases h3 : 224 ≤ bt s i ∧ bt s i < 240
      · have hw : wid s i = widN s i 3 (bt s i - 224) 2048 := by unfold wid; rw [if_neg h1, if_neg h2, if_pos h3]
        rw [hw]
        exact width3 s i w hi hs h3.1 h3.2
      · by_cases h4 : 240 ≤ bt s i ∧ bt s i < 248
        · have hw : wid s i = widN s i 4 (bt s i - 240) 65536 := by unfold wid; rw [if_neg h1, if_neg h2, if_neg h3, if_pos h4]
          rw [hw]
          exact width4 s i w hi hs h4.1 h4.2
        · have hw : wid s i = 0 := by unfold wid; rw [if_neg h1, if_neg h2, if_neg h3, if_neg h4]
          have hb := bt_get s i hi
          have hlt := bt_lt s i
          have h1' : ¬ (bt s i : Int) < 128 := by omega
          rw [hw]
          by_cases h5 : bt s i < 192
          · have q1 : ¬ (192 : Int) ≤ (bt s i : Int) := by omega
            have q2 : ¬ (224 : Int) ≤ (bt s i : Int) := by omega
            have q3 : ¬ (240 : Int) ≤ (bt s i : Int) := by omega
            go_enter Tryd.func112, Tryd.ntmps112
            go_wp2
            go_ret
            exact ⟨rfl, rfl⟩
          · have q1 : (192 : Int) ≤ (bt s i : Int) := by omega
            have q1' : ¬ (bt s i : Int) < 224 := by omega
            have q2 : (224 : Int) ≤ (bt s i : Int) := by omega
            have q2' : ¬ (bt s i : Int) < 240 := by omega
            have q3 : (240 : Int) ≤ (bt s i : Int) := by omega
            have q3' : ¬ (bt s i : Int) < 248 := by omega
            go_enter Tryd.func112, Tryd.ntmps112
            go_wp2
            go_ret
            exact ⟨rfl, rfl⟩
end Go.Proofs.YtmmflekajbeamaaDoor

namespace Go.Proofs.YtmmflekajbeamaaDoor
open Go.RowKit

/-- May a token be a part of the kind c (r, n, v)? -/
def fitK (c : UInt8) (s : ByteArray) : Bool := if c = 114 then regB s.data.toList else if c = 118 then fitB 4294967295 s else fitB 4095 s
theorem fits_any (c : UInt8) (s : ByteArray) (w : World) (hc : c = 114 ∨ c = 110 ∨ c = 118) (ht : Tab w) (hs : s.size ≤ maxLen) :
    Calls Tryd.prog 183 #[.int .i32 (c.toNat : Int), .string s] w fun e' w' => e' = .returned (.bool (fitK c s)) ∧ Below w.heap.size w w' := by
  rcases hc with rfl | rfl | rfl
  · refine (fits_reg s w hs).mono ?_
    rintro e w' ⟨rfl, rfl⟩
    exact ⟨rfl, Below.refl _ _⟩
  · exact fits_num 110 4095 s w (.inl ⟨rfl, rfl⟩) ht hs
  · exact fits_num 118 4294967295 s w (.inr ⟨rfl, rfl⟩) ht hs

/-- A token's five cells, from offset o of block g on. -/
structure RowAt (w : World) (g o : Nat) (t : Tok) : Prop where
  r0 : w.cell? ⟨g, o, none⟩ = some (.string t.text)
  r1 : w.cell? ⟨g, o + 1, none⟩ = some (.int .i64 t.fl)
  r2 : w.cell? ⟨g, o + 1 + 1, none⟩ = some (.int .i64 t.fc)
  r3 : w.cell? ⟨g, o + 1 + 1 + 1, none⟩ = some (.int .i64 t.bl)
  r4 : w.cell? ⟨g, o + 1 + 1 + 1 + 1, none⟩ = some (.int .i64 t.bc)
theorem RowAt.below {w w' : World} {g o : Nat} {t : Tok} (h : RowAt w g o t) (hb : Below w.heap.size w w') : RowAt w' g o t := by
  have hg : g < w.heap.size := block_lt_of_cell h.r0
  exact ⟨(below_cell' hb g _ hg).trans h.r0, (below_cell' hb g _ hg).trans h.r1, (below_cell' hb g _ hg).trans h.r2, (below_cell' hb g _ hg).trans h.r3, (below_cell' hb g _ hg).trans h.r4⟩
/-- A slice of tokens, wherever it begins. -/
def SlAt (w : World) (v : Value) (l : List Tok) : Prop :=
  ∃ a cap, v = .slice a l.length cap ∧ l.length ≤ cap ∧ (l ≠ [] → ∃ g off, a = some ⟨g, off, none⟩ ∧ ∀ i t, l[i]? = some t → RowAt w g (off + i * 5) t)
theorem SlAt.below {w w' : World} {v : Value} {l : List Tok} (h : SlAt w v l) (hb : Below w.heap.size w w') : SlAt w' v l := by
  obtain ⟨a, cap, hv, hc, h⟩ := h
  refine ⟨a, cap, hv, hc, fun hne => ?_⟩
  obtain ⟨g, off, ha, hr⟩ := h hne
  exact ⟨g, off, ha, fun i t hi => (hr i t hi).below hb⟩

/-- The first part that is wrong, too many or lacking: its place. -/
def chkGo (pt : List UInt8) : Nat → Tok → List Tok → Option (Int × Int)
  | i, last, [] => if i < pt.length then some (last.bl, last.bc) else none
  | i, _, t :: ts => if pt.length ≤ i then some (t.fl, t.fc) else if fitK (pt.getD i 0) t.text = false then some (t.fl, t.fc) else chkGo pt (i + 1) t ts

theorem rowPt_kind (n : Nat) (i : Nat) (c : UInt8) (h : (rowPt n)[i]? = some c) : c = 114 ∨ c = 110 ∨ c = 118 := by
  have hm : c ∈ rowPt n := List.mem_of_getElem? h
  match n, hm with
  | 0, hm => simp [rowPt] at hm
  | 1, hm => simp [rowPt] at hm; rcases hm with rfl | rfl <;> decide
  | 2, hm => simp [rowPt] at hm; subst hm; decide
  | 3, hm => simp [rowPt] at hm; subst hm; decide
  | 4, hm => simp [rowPt] at hm; subst hm; decide
  | 5, hm => simp [rowPt] at hm; subst hm; decide
  | 6, hm => simp [rowPt] at hm; rcases hm with rfl | rfl <;> decide
  | 7, hm => simp [rowPt] at hm; rcases hm with rfl | rfl <;> decide
  | 8, hm => simp [rowPt] at hm; rcases hm with rfl | rfl <;> decide
  | 9, hm => simp [rowPt] at hm; subst hm; decide
  | 10, hm => simp [rowPt] at hm; subst hm; decide
  | 11, hm => simp [rowPt] at hm; subst hm; decide
  | k + 12, hm => simp [rowPt] at hm
theorem rowPt_len (n : Nat) : (rowPt n).length ≤ 3 := by
  match n with
  | 0 | 1 | 2 | 3 | 4 | 5 | 6 | 7 | 8 | 9 | 10 | 11 => decide
  | k + 12 => simp [rowPt]

def W3c (n : Nat) (hd : Tok) (w : World) : World :=
  ((w.alloc (.cells #[.string ⟨(rowNm n).toArray⟩, .int .i64 (rowOp n), .string ⟨(rowPt n).toArray⟩] 198)).alloc (.cells #[.string hd.text, .int .i64 hd.fl, .int .i64 hd.fc, .int .i64 hd.bl, .int .i64 hd.bc] 209)).alloc (.cells #[.int .i64 0, .int .i64 0, .int .i64 0] 116)
theorem W3c_size (n : Nat) (hd : Tok) (w : World) : (W3c n hd w).heap.size = w.heap.size + 1 + 1 + 1 := by unfold W3c; rw [size_alloc1, size_alloc1, size_alloc1]
theorem W3c_below (n : Nat) (hd : Tok) (w : World) : Below w.heap.size w (W3c n hd w) := below3 w _ _ _
theorem chk_start (n : Nat) (hd : Tok) (w : World) :
    Below (w.heap.size + 1 + 1 + 1) (W3c n hd w) ((W3c n hd w).alloc (.cells #[.string hd.text, .int .i64 hd.fl, .int .i64 hd.fc, .int .i64 hd.bl, .int .i64 hd.bc] 209)) ∧
    RowAt ((W3c n hd w).alloc (.cells #[.string hd.text, .int .i64 hd.fl, .int .i64 hd.fc, .int .i64 hd.bl, .int .i64 hd.bc] 209)) (w.heap.size + 1 + 1 + 1) 0 hd ∧
    ∀ j, ((W3c n hd w).alloc (.cells #[.string hd.text, .int .i64 hd.fl, .int .i64 hd.fc, .int .i64 hd.bl, .int .i64 hd.bc] 209)).frozen? ⟨w.heap.size + 1 + 1 + 1, j, none⟩ = false := by
  have hs := W3c_size n hd w
  refine ⟨(Below.refl _ _).alloc (by omega) _, ⟨?_, ?_, ?_, ?_, ?_⟩, fun j => ?_⟩
  iterate 5
    · rw [World.cell?_alloc_at (hn := hs.symm)]; rfl
  · rw [World.frozen?_alloc_at (hn := hs.symm)]
theorem chk_cells (n : Nat) (hd : Tok) (w wr : World) (hb : Below (w.heap.size + 1 + 1 + 1) (W3c n hd w) wr) :
    wr.cell? ⟨w.heap.size, 2, none⟩ = some (.string ⟨(rowPt n).toArray⟩) ∧ wr.cell? ⟨w.heap.size + 1 + 1, 0, none⟩ = some (.int .i64 0) ∧ wr.cell? ⟨w.heap.size + 1 + 1, 1, none⟩ = some (.int .i64 0) ∧ wr.cell? ⟨w.heap.size + 1 + 1, 2, none⟩ = some (.int .i64 0) ∧
    ∀ j, wr.frozen? ⟨w.heap.size + 1 + 1, j, none⟩ = false := by
  refine ⟨?_, ?_, ?_, ?_, fun j => ?_⟩
  · rw [below_cell' hb _ _ (by omega)]
    unfold W3c
    rw [World.cell?_alloc_past (hn := by rw [size_alloc1, size_alloc1]; omega), World.cell?_alloc_past (hn := by rw [size_alloc1]; omega), World.cell?_alloc_at (hn := rfl)]; rfl
  iterate 3
    · rw [below_cell' hb _ _ (by omega)]
      unfold W3c
      rw [World.cell?_alloc_at (hn := by rw [size_alloc1, size_alloc1])]; rfl
  · rw [hb.frozen (p := ⟨w.heap.size + 1 + 1, j, none⟩) (by simp)]
    unfold W3c
    rw [World.frozen?_alloc_at (hn := by rw [size_alloc1, size_alloc1])]

theorem rowAt_set5 {w : World} {g : Nat} {v0 v1 v2 v3 v4 : Value} (h0 : w.cell? ⟨g, 0, none⟩ = some v0) (h1 : w.cell? ⟨g, 1, none⟩ = some v1) (h2 : w.cell? ⟨g, 2, none⟩ = some v2) (h3 : w.cell? ⟨g, 3, none⟩ = some v3) (h4 : w.cell? ⟨g, 4, none⟩ = some v4) (t : Tok) :
    RowAt (((((w.setCell ⟨g, 0, none⟩ (.string t.text)).setCell ⟨g, 1, none⟩ (.int .i64 t.fl)).setCell ⟨g, 2, none⟩ (.int .i64 t.fc)).setCell ⟨g, 3, none⟩ (.int .i64 t.bl)).setCell ⟨g, 4, none⟩ (.int .i64 t.bc)) g 0 t :=
  ⟨cell_of_rows (cell_of_rows (cell_of_rows (cell_of_rows (cell_set_same h0) (by decide)) (by decide)) (by decide)) (by decide),
   cell_of_rows (cell_of_rows (cell_of_rows (cell_set_same (cell_of_rows h1 (by decide))) (by decide)) (by decide)) (by decide),
   cell_of_rows (cell_of_rows (cell_set_same (cell_of_rows (cell_of_rows h2 (by decide)) (by decide))) (by decide)) (by decide),
   cell_of_rows (cell_set_same (cell_of_rows (cell_of_rows (cell_of_rows h3 (by decide)) (by decide)) (by decide))) (by decide),
   cell_set_same (cell_of_rows (cell_of_rows (cell_of_rows (cell_of_rows h4 (by decide)) (by decide)) (by decide)) (by decide))⟩
theorem cell_new (w : World) (c : Array Value) (t : TypeId) (j : Nat) (u : Value) (h : c[j]? = some u) : ((w.alloc (.cells c t)).drew).cell? ⟨w.heap.size, j, none⟩ = some u := by
  show (w.alloc (.cells c t)).cell? ⟨w.heap.size, j, none⟩ = some u
  rw [World.cell?_alloc_at (hn := rfl)]; exact h
set_option maxRecDepth 100000 in
set_option maxHeartbeats 2000000 in
theorem checkParts_any (n : Nat) (hd : Tok) (v : Value) (parts : List Tok) (w : World) (hsl : SlAt w v parts) (ht : Tab w) (hlen : parts.length ≤ 5000) (hts : ∀ t ∈ parts, t.text.size ≤ maxLen) :
    Calls Tryd.prog 177 #[.agg (rowV n), .agg (tokC hd).toArray, v] w fun e' w' => Below w.heap.size w w' ∧
      ((chkGo (rowPt n) 0 hd parts = none ∧ e' = .returned (.agg #[.int .i64 0, .int .i64 0, .int .i64 0])) ∨ ∃ l c, chkGo (rowPt n) 0 hd parts = some (l, c) ∧ e' = .returned (.agg #[.int .i64 l, .int .i64 c, .int .i64 4])) := by
  obtain ⟨a, cap, rfl, hcap, hrow⟩ := hsl
  have HRow := hide hrow
  clear hrow
  simp only [rowV, tokC]
  go_enter Tryd.func177, Tryd.ntmps177
  go_wp2_with fail
  go_loopw [13] (fun i wr => ∃ (k : Nat) (last : Tok), k ≤ parts.length ∧ i = .int .i64 k ∧ Below (w.heap.size + 1 + 1 + 1) (W3c n hd w) wr ∧ RowAt wr (w.heap.size + 1 + 1 + 1) 0 last ∧ (∀ j, wr.frozen? ⟨w.heap.size + 1 + 1 + 1, j, none⟩ = false) ∧ Hid (chkGo (rowPt n) k last (parts.drop k) = chkGo (rowPt n) 0 hd parts)) (fun i _ => parts.length - (intOf i).toNat)
  case atStart => exact ⟨0, hd, Nat.zero_le _, rfl, (chk_start n hd w).1, (chk_start n hd w).2.1, (chk_start n hd w).2.2, rfl⟩
  case round =>
    obtain ⟨k, last, hk, rfl, hbw, hlast, hlf, HG⟩ := hrel
    obtain ⟨m0, f0, f1, f2, ff⟩ := chk_cells n hd w wr hbw
    have hB : Hid (Below w.heap.size w wr) := (W3c_below n hd w).trans (hbw.mono (by omega))
    have hz : w.heap.size + 1 + 1 + 1 < wr.heap.size := block_lt_of_cell hlast.r0
    have hz0 : w.heap.size < wr.heap.size := by omega
    have hz2 : w.heap.size + 1 + 1 < wr.heap.size := by omega
    obtain ⟨q0, q1, q2, q3, q4⟩ := hlast
    have HBw := hide hbw
    clear hbw
    by_cases hlt : k < parts.length
    · have hne : parts ≠ [] := by intro e; rw [e] at hlt; simp at hlt
      obtain ⟨g, off, rfl, hr⟩ := HRow.out hne
      have hrk := (hr k parts[k] (by simp [hlt])).below hB.out
      obtain ⟨t0, t1, t2, t3, t4⟩ := hrk
      have hlt' : (k : Int) < (parts.length : Int) := by omega
      have HTx := hide (hts parts[k] (by simp))
      have HDr : Hid (parts.drop k = parts[k] :: parts.drop (k + 1)) := List.drop_eq_getElem_cons hlt
      generalize parts[k] = t at *
      clear HRow hr
      have hTab : ∀ o, Tab ((wr.alloc o).drew) := fun o => ht.below ht.pos ((hB.out.alloc hB.out.size o).drew)
      by_cases hpl : k < (rowPt n).length
      · obtain ⟨c, hc⟩ : ∃ c, (rowPt n)[k]? = some c := ⟨(rowPt n)[k], by simp [hpl]⟩
        have hck := rowPt_kind n k c hc
        have hix : ∀ h, (⟨(rowPt n).toArray⟩ : ByteArray)[k]'h = c := fun h => by
          have : (rowPt n)[k]'hpl = c := by rw [List.getElem?_eq_getElem hpl] at hc; exact Option.some.inj hc
          exact this
        have hcd : (rowPt n).getD k 0 = c := by rw [List.getD_eq_getElem?_getD, hc]; rfl
        have HF := hide (fun o => fits_any c t.text ((wr.alloc o).drew) hck (hTab o) HTx.out)
        have hpl' : ¬ ((rowPt n).length : Int) ≤ (k : Int) := by omega
        have hpl2 : (k : Int) < ((rowPt n).length : Int) := by omega
        have hsz : (⟨(rowPt n).toArray⟩ : ByteArray).size = (rowPt n).length := by simp [ByteArray.size]
        have hc3 : ((c.toNat : Int)) ≤ 255 := by have := c.toNat_lt; omega
        cases hfit : fitK c t.text
        · have hgo : chkGo (rowPt n) 0 hd parts = some (t.fl, t.fc) := by rw [← HG.out, HDr.out, chkGo, if_neg (by omega), hcd, hfit]; rfl
          have HGo := hide hgo
          rw [hfit] at HF
          clear hTab hck hc hcd hfit hgo HG HDr HTx
          go_wp2_with fail
          refine still_tail 13 (by kernel_rfl) (by kernel_rfl) ?_
          simp only [List.take_succ_cons, List.take_zero, List.drop_succ_cons, List.drop_zero]
          repeat still_step
          refine wpStill_nil ?_
          go_wp2_with fail
          refine (unhide HF _).mono ?_
          rintro e w2 ⟨rfl, hb2⟩
          have hb2' : Below (wr.heap.size + 1) ((wr.alloc (.cells #[.string t.text, .int .i64 t.fl, .int .i64 t.fc, .int .i64 t.bl, .int .i64 t.bc] 209)).drew) w2 := hb2.mono (by show wr.heap.size + 1 ≤ (wr.alloc _).heap.size; rw [size_alloc1]; omega)
          have x0 : w2.cell? ⟨wr.heap.size, 0, none⟩ = some (.string t.text) := by rw [below_cell' hb2' _ _ (by omega)]; exact cell_new wr _ _ 0 _ rfl
          have x1 : w2.cell? ⟨wr.heap.size, 1, none⟩ = some (.int .i64 t.fl) := by rw [below_cell' hb2' _ _ (by omega)]; exact cell_new wr _ _ 1 _ rfl
          have x2 : w2.cell? ⟨wr.heap.size, 2, none⟩ = some (.int .i64 t.fc) := by rw [below_cell' hb2' _ _ (by omega)]; exact cell_new wr _ _ 2 _ rfl
          have x3 : w2.cell? ⟨wr.heap.size, 3, none⟩ = some (.int .i64 t.bl) := by rw [below_cell' hb2' _ _ (by omega)]; exact cell_new wr _ _ 3 _ rfl
          have x4 : w2.cell? ⟨wr.heap.size, 4, none⟩ = some (.int .i64 t.bc) := by rw [below_cell' hb2' _ _ (by omega)]; exact cell_new wr _ _ 4 _ rfl
          have hbo : ∀ m j, m < wr.heap.size → w2.cell? ⟨m, j, none⟩ = wr.cell? ⟨m, j, none⟩ := fun m j hm => (below_cell' hb2' m j (by omega)).trans (cellD wr _ hm j)
          have hfo : ∀ m j, m < wr.heap.size → w2.frozen? ⟨m, j, none⟩ = wr.frozen? ⟨m, j, none⟩ := fun m j hm => (hb2'.frozen (p := ⟨m, j, none⟩) (by show m < _; omega)).trans (World.frozen?_of_block (w := wr) (Below.heap_alloc wr _ m hm))
          have HB2 : Hid (Below wr.heap.size wr w2) := ((Below.refl _ _).alloc (Nat.le_refl _) _).drew.trans (hb2'.mono (by omega))
          clear hb2 hb2' HF
          have y0 := (hbo _ 0 hz2).trans f0
          have y1 := (hbo _ 1 hz2).trans f1
          have y2 := (hbo _ 2 hz2).trans f2
          have yf : ∀ j, w2.frozen? ⟨w.heap.size + 1 + 1, j, none⟩ = false := fun j => (hfo _ j hz2).trans (ff j)
          clear hbo hfo
          go_wp2_with fail
          refine bodyPost_ret (v := .agg #[.int .i64 t.fl, .int .i64 t.fc, .int .i64 4]) (by simp [results, Tryd.results177, go_sem, y0, y1, y2]) rfl ⟨?_, .inr ⟨t.fl, t.fc, HGo.out, rfl⟩⟩
          exact (((hB.out.trans (HB2.out.mono hB.out.size)).setCell (by show w.heap.size ≤ w.heap.size + 1 + 1; omega) _).setCell (by show w.heap.size ≤ w.heap.size + 1 + 1; omega) _).setCell (by show w.heap.size ≤ w.heap.size + 1 + 1; omega) _
        · have HG' : Hid (chkGo (rowPt n) (k + 1) t (parts.drop (k + 1)) = chkGo (rowPt n) 0 hd parts) := by rw [← HG.out, HDr.out, chkGo, if_neg (by omega), hcd, hfit]; rfl
          rw [hfit] at HF
          clear hTab hck hc hcd hfit HG HDr HTx
          go_wp2_with fail
          refine still_tail 13 (by kernel_rfl) (by kernel_rfl) ?_
          simp only [List.take_succ_cons, List.take_zero, List.drop_succ_cons, List.drop_zero]
          repeat still_step
          refine wpStill_nil ?_
          go_wp2_with fail
          refine (unhide HF _).mono ?_
          rintro e w2 ⟨rfl, hb2⟩
          have hb2' : Below (wr.heap.size + 1) ((wr.alloc (.cells #[.string t.text, .int .i64 t.fl, .int .i64 t.fc, .int .i64 t.bl, .int .i64 t.bc] 209)).drew) w2 := hb2.mono (by show wr.heap.size + 1 ≤ (wr.alloc _).heap.size; rw [size_alloc1]; omega)
          have x0 : w2.cell? ⟨wr.heap.size, 0, none⟩ = some (.string t.text) := by rw [below_cell' hb2' _ _ (by omega)]; exact cell_new wr _ _ 0 _ rfl
          have x1 : w2.cell? ⟨wr.heap.size, 1, none⟩ = some (.int .i64 t.fl) := by rw [below_cell' hb2' _ _ (by omega)]; exact cell_new wr _ _ 1 _ rfl
          have x2 : w2.cell? ⟨wr.heap.size, 2, none⟩ = some (.int .i64 t.fc) := by rw [below_cell' hb2' _ _ (by omega)]; exact cell_new wr _ _ 2 _ rfl
          have x3 : w2.cell? ⟨wr.heap.size, 3, none⟩ = some (.int .i64 t.bl) := by rw [below_cell' hb2' _ _ (by omega)]; exact cell_new wr _ _ 3 _ rfl
          have x4 : w2.cell? ⟨wr.heap.size, 4, none⟩ = some (.int .i64 t.bc) := by rw [below_cell' hb2' _ _ (by omega)]; exact cell_new wr _ _ 4 _ rfl
          have hbo : ∀ m j, m < wr.heap.size → w2.cell? ⟨m, j, none⟩ = wr.cell? ⟨m, j, none⟩ := fun m j hm => (below_cell' hb2' m j (by omega)).trans (cellD wr _ hm j)
          have hfo : ∀ m j, m < wr.heap.size → w2.frozen? ⟨m, j, none⟩ = wr.frozen? ⟨m, j, none⟩ := fun m j hm => (hb2'.frozen (p := ⟨m, j, none⟩) (by show m < _; omega)).trans (World.frozen?_of_block (w := wr) (Below.heap_alloc wr _ m hm))
          have HB2 : Hid (Below wr.heap.size wr w2) := ((Below.refl _ _).alloc (Nat.le_refl _) _).drew.trans (hb2'.mono (by omega))
          clear hb2 hb2' HF
          have y0 := (hbo _ 0 hz).trans q0
          have y1 := (hbo _ 1 hz).trans q1
          have y2 := (hbo _ 2 hz).trans q2
          have y3 := (hbo _ 3 hz).trans q3
          have y4 := (hbo _ 4 hz).trans q4
          have yf : ∀ j, w2.frozen? ⟨w.heap.size + 1 + 1 + 1, j, none⟩ = false := fun j => (hfo _ j hz).trans (hlf j)
          clear hbo hfo
          go_wp2_with fail
          have HBx : Hid (Below (w.heap.size + 1 + 1 + 1) (W3c n hd w) w2) := HBw.out.trans (HB2.out.mono (by omega))
          refine ⟨⟨k + 1, t, by omega, by go_num, ?_, rowAt_set5 y0 y1 y2 y3 y4 t, fun j => by simp only [World.frozen?_setCell]; exact yf j, HG'⟩, by simp [intOf]; omega⟩
          exact ((((HBx.out.setCell (Nat.le_refl _) _).setCell (Nat.le_refl _) _).setCell (Nat.le_refl _) _).setCell (Nat.le_refl _) _).setCell (Nat.le_refl _) _
      · have hgo : chkGo (rowPt n) 0 hd parts = some (t.fl, t.fc) := by rw [← HG.out, HDr.out, chkGo, if_pos (by omega)]
        have HGo := hide hgo
        have hpl' : ((rowPt n).length : Int) ≤ (k : Int) := by omega
        have hsz : (⟨(rowPt n).toArray⟩ : ByteArray).size = (rowPt n).length := by simp [ByteArray.size]
        clear hTab hgo HG HDr HTx hpl
        go_wp2_with fail
        go_quiet (fail)
        go_wp2_with fail
        refine bodyPost_ret (v := .agg #[.int .i64 t.fl, .int .i64 t.fc, .int .i64 4]) (by simp [results, Tryd.results177, go_sem, f0, f1, f2, hz2]) rfl ⟨?_, .inr ⟨t.fl, t.fc, HGo.out, rfl⟩⟩
        exact (((below_drewN (hB.out.alloc hB.out.size _) nq).setCell (by show w.heap.size ≤ w.heap.size + 1 + 1; omega) _).setCell (by show w.heap.size ≤ w.heap.size + 1 + 1; omega) _).setCell (by show w.heap.size ≤ w.heap.size + 1 + 1; omega) _
    · have hkn : k = parts.length := by omega
      subst hkn
      have hsz : (⟨(rowPt n).toArray⟩ : ByteArray).size = (rowPt n).length := by simp [ByteArray.size]
      clear HRow
      by_cases hpl : parts.length < (rowPt n).length
      · have hgo : chkGo (rowPt n) 0 hd parts = some (last.bl, last.bc) := by rw [← HG.out, List.drop_of_length_le (Nat.le_refl _), chkGo, if_pos hpl]
        have HGo := hide hgo
        have hpl' : (parts.length : Int) < ((rowPt n).length : Int) := by omega
        clear hgo HG
        go_wp2_with fail
        refine bodyPost_ret (v := .agg #[.int .i64 last.bl, .int .i64 last.bc, .int .i64 4]) (by simp [results, Tryd.results177, go_sem, f0, f1, f2]) rfl ⟨?_, .inr ⟨last.bl, last.bc, HGo.out, rfl⟩⟩
        exact ((hB.out.setCell (by show w.heap.size ≤ w.heap.size + 1 + 1; omega) _).setCell (by show w.heap.size ≤ w.heap.size + 1 + 1; omega) _).setCell (by show w.heap.size ≤ w.heap.size + 1 + 1; omega) _
      · have hgo : chkGo (rowPt n) 0 hd parts = none := by rw [← HG.out, List.drop_of_length_le (Nat.le_refl _), chkGo, if_neg hpl]
        have HGo := hide hgo
        have hpl' : ¬ (parts.length : Int) < ((rowPt n).length : Int) := by omega
        clear hgo HG
        go_wp2_with fail
        refine bodyPost_ret (v := .agg #[.int .i64 0, .int .i64 0, .int .i64 0]) (by simp [results, Tryd.results177, go_sem, f0, f1, f2]) rfl ⟨?_, .inl ⟨HGo.out, rfl⟩⟩
        exact ((hB.out.setCell (by show w.heap.size ≤ w.heap.size + 1 + 1; omega) _).setCell (by show w.heap.size ≤ w.heap.size + 1 + 1; omega) _).setCell (by show w.heap.size ≤ w.heap.size + 1 + 1; omega) _
end Go.Proofs.YtmmflekajbeamaaDoor
