/-
  Areas that an engine has written, read back: plain mathematics.
  Kept: frames that were cut, with at most three bytes of junk behind: plain mathematics.
  Kept: what an area tells that grows, that is laid anew, that was cut: plain mathematics.
  Warm: an engine that knows all that another has translated runs as that one did: plain mathematics.
  Warm: what runs leave of an engine; the books; a device that is calm and all synced: plain mathematics.
  Warm: what is laid down is known behind a crash: plain mathematics.
  Kept: what a device tells whatever a crash leaves of it; what an engine at work over it keeps to: plain mathematics.
-/
import Derived.Test.YtmmflekajbeamabGreatDoorK32
import Derived.Test.YtmmflekajbeamabGreatDoorK30
namespace Go.Proofs.YtmmflekajbeamabGreatDoor

/-- Frames from where one stands, whatever the fuel. -/
def scW (a : ArN) (l : List UInt8) : ArN := scn (l.length + 1) a l
theorem scan_W (l : List UInt8) : scan l = scW ar0 l := rfl
theorem scW_none {l : List UInt8} (a : ArN) (h : frst l = none) : scW a l = a := by
  unfold scW
  rw [scn, h]
theorem scW_told (a : ArN) (k : Nat) (p r : List UInt8) (h1 : 1 ≤ k) (h3 : k ≤ 3) (hp : p.length ≤ 200) : scW a (frT k p ++ r) = match arT a k p with | none => a | some a' => scW a' r := by
  unfold scW
  rw [scn, frst_told k p r h1 h3 hp]
  simp only
  cases hq : arT a k p with
  | none => rfl
  | some a' =>
    simp only
    rw [← frT_len k p, List.drop_left' rfl]
    refine scn_more _ _ _ _ (by omega) ?_
    rw [List.length_append, frT_len]
    omega
/-- An entry that may stand in an area. -/
structure EnOK (x : List UInt8 × List UInt8) : Prop where
  blk : blkB (bya x.1) = true
  all : x.1.length + x.2.length ≤ 199
theorem EnOK.len {x : List UInt8 × List UInt8} (h : EnOK x) : 4 ≤ x.1.length ∧ x.1.length ≤ 32 ∧ x.1.length % 4 = 0 := by
  have q := (blkB_iff _).1 h.blk
  have e : (bya x.1).size = x.1.length := bya_size x.1
  unfold blkOK at q
  rw [e] at q
  exact ⟨q.1, q.2.1, q.2.2.1⟩
theorem enPl_len (x : List UInt8 × List UInt8) : (enPl x).length = 1 + (x.1.length + x.2.length) := by
  unfold enPl
  rw [List.length_append, List.length_append, numB_len]
  omega
theorem enF_told {x : List UInt8 × List UInt8} (h : EnOK x) : enF x = frT 2 (enPl x) := by
  unfold enF slT
  rw [if_pos (by rw [enPl_len]; have := h.all; omega)]
theorem arE_ent (a : ArN) (x : List UInt8 × List UInt8) (hg : a.gen ≠ 0) (hx : EnOK x) : arT a 2 (enPl x) = some ⟨a.gen, a.whole, a.good + ((enPl x).length + 8), a.list ++ [x]⟩ := by
  obtain ⟨l4, l32, lm⟩ := hx.len
  have hblk := hx.blk
  have hL := enPl_len x
  obtain ⟨b, p⟩ := x
  simp only at l4 l32 lm hblk hL
  have e1 : enPl (b, p) = UInt8.ofNat (b.length / 4 % 256) :: (b ++ p) := by simp [enPl, numB]
  have hc : ((enPl (b, p)).getD 0 0).toNat = b.length / 4 := by
    rw [e1, List.getD_cons_zero, UInt8.toNat_ofNat']
    omega
  have h4 : 4 * (b.length / 4) = b.length := by omega
  have hne : enPl (b, p) ≠ [] := by rw [e1]; exact List.cons_ne_nil _ _
  have hd : (enPl (b, p)).drop 1 = b ++ p := by rw [e1]; rfl
  unfold arT
  rw [if_neg hg, if_pos rfl, hc, h4, hd, List.take_left' rfl, if_pos ⟨hne, by omega, hblk⟩, ← List.drop_drop, hd, List.drop_left' rfl]
theorem entsT_cons (x : List UInt8 × List UInt8) (ws : List (List UInt8 × List UInt8)) : entsT (x :: ws) = enF x ++ entsT ws := by
  unfold entsT
  exact List.flatMap_cons
theorem scW_ents : ∀ (ws : List (List UInt8 × List UInt8)) (a : ArN) (r : List UInt8), a.gen ≠ 0 → (∀ x ∈ ws, EnOK x) → scW a (entsT ws ++ r) = scW ⟨a.gen, a.whole, a.good + (entsT ws).length, a.list ++ ws⟩ r
  | [], a, r, _, _ => by
    obtain ⟨g, w, o, l⟩ := a
    show scW _ r = scW ⟨g, w, o + 0, l ++ []⟩ r
    rw [List.append_nil]
    rfl
  | x :: ws, a, r, hg, hx => by
    have hx0 := hx x (List.mem_cons_self)
    rw [entsT_cons, List.append_assoc, enF_told hx0, scW_told a 2 _ _ (by decide) (by decide) (by rw [enPl_len]; have := hx0.all; omega), arE_ent a x hg hx0]
    simp only
    rw [scW_ents ws ⟨a.gen, a.whole, a.good + ((enPl x).length + 8), a.list ++ [x]⟩ r hg (fun y hy => hx y (List.mem_cons_of_mem _ hy))]
    simp only [List.length_append, frT_len, List.append_assoc, List.singleton_append]
    congr 2
    omega
theorem arE_open (g : Nat) (h0 : 0 < g) (h1 : g ≤ 4294967295) : arT ar0 1 (numB 4 g) = some ⟨g, false, 12, []⟩ := by
  have hl4 : (numB 4 g).length = 4 := numB_len 4 g
  have hbe : beN (bya (numB 4 g)) 0 4 = g := by
    have := numB_be (bya (numB 4 g)) 0
    refine numB_inj4 (by have := beN_lt (bya (numB 4 g)) 0 4; omega) (by omega) (this.trans ?_)
    simp [numB, bya, ByteArray.get!]
  unfold arT
  rw [if_pos (show ar0.gen = 0 from rfl), hbe, if_pos ⟨rfl, hl4, by omega⟩, hl4]
  rfl
/-- An area laid down whole, and what stands behind it. -/
theorem scan_anew (g : Nat) (ws : List (List UInt8 × List UInt8)) (r : List UInt8) (h0 : 0 < g) (h1 : g ≤ 4294967295) (hx : ∀ x ∈ ws, EnOK x) : scan (anewT g ws ++ r) = scW ⟨g, true, (anewT g ws).length, ws⟩ r := by
  have hl4 : (numB 4 g).length = 4 := numB_len 4 g
  have e1 : slT 1 (numB 4 g) = frT 1 (numB 4 g) := by unfold slT; rw [if_pos (by omega)]
  have e3 : slT 3 [] = frT 3 [] := by unfold slT; rw [if_pos (show ([] : List UInt8).length ≤ 200 from Nat.zero_le _)]
  have el : (anewT g ws).length = 12 + (entsT ws).length + 8 := by
    unfold anewT
    rw [e1, e3, List.length_append, List.length_append, frT_len, frT_len, hl4]
    rfl
  rw [el, scan_W]
  unfold anewT
  rw [e1, e3, List.append_assoc, List.append_assoc, scW_told ar0 1 _ _ (by decide) (by decide) (by omega), arE_open g h0 h1]
  simp only
  rw [scW_ents ws ⟨g, false, 12, []⟩ _ (by show g ≠ 0; omega) hx, scW_told _ 3 [] r (by decide) (by decide) (Nat.zero_le _)]
  have ha : arT ⟨g, false, 12 + (entsT ws).length, ws⟩ 3 [] = some ⟨g, true, 12 + (entsT ws).length + 8, ws⟩ := by
    unfold arT
    rw [if_neg (by show g ≠ 0; omega), if_neg (by decide), if_pos rfl, if_pos ⟨rfl, rfl⟩]
    rfl
  simp only [List.nil_append]
  rw [ha]
theorem frst_nil : frst [] = none := rfl
theorem scan_whole (g : Nat) (ws vs : List (List UInt8 × List UInt8)) (h0 : 0 < g) (h1 : g ≤ 4294967295) (hx : ∀ x ∈ ws, EnOK x) (hv : ∀ x ∈ vs, EnOK x) : scan (anewT g ws ++ entsT vs) = ⟨g, true, (anewT g ws ++ entsT vs).length, ws ++ vs⟩ := by
  have e : anewT g ws ++ entsT vs = anewT g ws ++ (entsT vs ++ []) := by rw [List.append_nil]
  rw [e, scan_anew g ws _ h0 h1 hx, scW_ents vs _ [] (by show g ≠ 0; omega) hv, scW_none _ frst_nil, List.append_nil, List.length_append]
end Go.Proofs.YtmmflekajbeamabGreatDoor

namespace Go.Proofs.YtmmflekajbeamabGreatDoor

theorem frst_few {r : List UInt8} (h : r.length < 8) : frst r = none := by
  cases hq : frst r with
  | none => rfl
  | some x =>
    obtain ⟨k, p⟩ := x
    obtain ⟨_, _, _, hl, _⟩ := frst_some hq
    omega
theorem getD_pre {t l : List UInt8} {m i : Nat} (h : t.take m = l.take m) (hi : i < m) : t.getD i 0 = l.getD i 0 := by
  have e : ∀ s : List UInt8, (s.take m).getD i 0 = s.getD i 0 := fun s => by
    rw [List.getD_eq_getElem?_getD, List.getD_eq_getElem?_getD, List.getElem?_take, if_pos hi]
  rw [← e t, ← e l, h]
/-- A frame that was cut, junk behind it: no frame, or the very frame. -/
theorem frst_cut {k : Nat} {p : List UInt8} (h1 : 1 ≤ k) (h3 : k ≤ 3) (hp : p.length ≤ 200) (m : Nat) (j : List UInt8) (hj : j.length ≤ 3) (hm : m ≤ (frT k p).length) : frst ((frT k p).take m ++ j) = none ∨ ∃ r, (frT k p).take m ++ j = frT k p ++ r ∧ r.length ≤ 3 := by
  obtain ⟨t, ht⟩ : ∃ t, t = (frT k p).take m ++ j := ⟨_, rfl⟩
  rw [← ht]
  cases hq : frst t with
  | none => exact .inl rfl
  | some x =>
    right
    obtain ⟨k', p'⟩ := x
    obtain ⟨_, _, _, hl, htk, hk', hp', _⟩ := frst_some hq
    have hF := frT_len k p
    have htl : t.length = m + j.length := by rw [ht, List.length_append, List.length_take]; omega
    have hpre : t.take m = (frT k p).take m := by
      rw [ht, List.take_append_of_le_length (by rw [List.length_take]; omega), List.take_take]
      congr 1
      omega
    have hm5 : 5 ≤ m := by omega
    have hn : frN t = p.length := by
      have q := frN_told k p [] hp
      rw [List.append_nil] at q
      rw [← q]
      unfold frN
      rw [getD_pre hpre (by omega), getD_pre hpre (by omega)]
    have hkk : k' = k := by
      have q := kind_told k p [] h3
      rw [List.append_nil] at q
      rw [hk', ← q, getD_pre hpre (by omega)]
    have hpl : p'.length = p.length := hp'.trans hn
    subst hkk
    have hmm : p.length + 5 ≤ m := by omega
    have hpp : p' = p := by
      have e1 := pay_told k' p' []
      have e2 := pay_told k' p []
      rw [List.append_nil] at e1 e2
      have e3 : (frT k' p').take (p.length + 4) = (frT k' p).take (p.length + 4) := by
        rw [← htk, List.take_take, hpl, show min (p.length + 4) (p.length + 8) = p.length + 4 by omega]
        have q := congrArg (List.take (p.length + 4)) hpre
        rw [List.take_take, List.take_take, show min (p.length + 4) m = p.length + 4 by omega] at q
        exact q
      have e4 : ∀ s : List UInt8, (s.drop 4).take p.length = (s.take (p.length + 4)).drop 4 := fun s => by rw [List.take_drop, Nat.add_comm]
      rw [hpl, e4, e3, ← e4, e2] at e1
      exact e1.symm
    subst hpp
    refine ⟨t.drop (p'.length + 8), ?_, by rw [List.length_drop]; omega⟩
    rw [← htk, List.take_append_drop]
/-- Frames, one behind the other. -/
def frsT (fs : List (Nat × List UInt8)) : List UInt8 := fs.flatMap fun f => frT f.1 f.2
def FrOK (f : Nat × List UInt8) : Prop := 1 ≤ f.1 ∧ f.1 ≤ 3 ∧ f.2.length ≤ 200
theorem frsT_cons (f : Nat × List UInt8) (fs : List (Nat × List UInt8)) : frsT (f :: fs) = frT f.1 f.2 ++ frsT fs := List.flatMap_cons
/-- Cut anywhere: as many whole frames, at least those that were whole before. -/
theorem scW_cut : ∀ (fs : List (Nat × List UInt8)) (a : ArN) (m : Nat) (j : List UInt8), (∀ f ∈ fs, FrOK f) → j.length ≤ 3 → m ≤ (frsT fs).length → ∃ i, i ≤ fs.length ∧ scW a ((frsT fs).take m ++ j) = scW a (frsT (fs.take i)) ∧ ∀ i0, i0 ≤ fs.length → (frsT (fs.take i0)).length ≤ m → i0 ≤ i ∨ (frsT (fs.take i0)).length ≤ (frsT (fs.take i)).length
  | [], a, m, j, _, hj, hm => by
    refine ⟨0, Nat.le_refl _, ?_, fun i0 h _ => .inl h⟩
    have e : frsT [] = [] := rfl
    rw [e, List.take_nil, List.nil_append]
    show scW a j = scW a []
    rw [scW_none a (frst_few (by omega)), scW_none a frst_nil]
  | f :: fs, a, m, j, hf, hj, hm => by
    obtain ⟨h1, h3, hp⟩ := hf f (List.mem_cons_self)
    have hf' : ∀ g ∈ fs, FrOK g := fun g hg => hf g (List.mem_cons_of_mem _ hg)
    rw [frsT_cons] at hm ⊢
    rw [List.length_append] at hm
    by_cases c : (frT f.1 f.2).length ≤ m
    · have e : (frT f.1 f.2 ++ frsT fs).take m = frT f.1 f.2 ++ (frsT fs).take (m - (frT f.1 f.2).length) := by
        rw [List.take_append]
        rw [List.take_of_length_le c]
      rw [e, List.append_assoc, scW_told a _ _ _ h1 h3 hp]
      cases hq : arT a f.1 f.2 with
      | none =>
        refine ⟨fs.length + 1, Nat.le_refl _, ?_, fun i0 h _ => .inl h⟩
        have e2 : (f :: fs).take (fs.length + 1) = f :: fs := List.take_of_length_le (Nat.le_refl _)
        rw [e2, frsT_cons, scW_told a _ _ _ h1 h3 hp, hq]
      | some a' =>
        obtain ⟨i, hi, he, hw⟩ := scW_cut fs a' (m - (frT f.1 f.2).length) j hf' hj (by omega)
        refine ⟨i + 1, by simpa using hi, ?_, fun i0 h0 hl => ?_⟩
        · show scW a' _ = _
          rw [he, List.take_succ_cons, frsT_cons, scW_told a _ _ _ h1 h3 hp, hq]
        · cases i0 with
          | zero => exact .inl (Nat.zero_le _)
          | succ i0 =>
            rw [List.take_succ_cons, frsT_cons, List.length_append] at hl
            rcases hw i0 (by simpa using h0) (by omega) with q | q
            · exact .inl (by omega)
            · right
              rw [List.take_succ_cons, List.take_succ_cons, frsT_cons, frsT_cons, List.length_append, List.length_append]
              omega
    · have e : (frT f.1 f.2 ++ frsT fs).take m = (frT f.1 f.2).take m := List.take_append_of_le_length (by omega)
      rw [e]
      rcases frst_cut h1 h3 hp m j hj (by omega) with q | ⟨r, q, hr⟩
      · refine ⟨0, Nat.zero_le _, ?_, fun i0 h0 hl => ?_⟩
        · rw [scW_none a q]
          show a = scW a []
          rw [scW_none a frst_nil]
        · cases i0 with
          | zero => exact .inl (Nat.zero_le _)
          | succ i0 =>
            rw [List.take_succ_cons, frsT_cons, List.length_append] at hl
            omega
      · refine ⟨1, by simp, ?_, fun i0 h0 hl => ?_⟩
        · rw [q]
          have e1 : frsT ((f :: fs).take 1) = frT f.1 f.2 ++ [] := by rw [List.take_succ_cons, List.take_zero, frsT_cons]; rfl
          rw [e1, scW_told a _ _ _ h1 h3 hp, scW_told a _ _ _ h1 h3 hp]
          cases arT a f.1 f.2 with
          | none => rfl
          | some a' =>
            simp only
            rw [scW_none a' (frst_few (by omega)), scW_none a' frst_nil]
        · cases i0 with
          | zero => exact .inl (Nat.zero_le _)
          | succ i0 =>
            rw [List.take_succ_cons, frsT_cons, List.length_append] at hl
            omega
end Go.Proofs.YtmmflekajbeamabGreatDoor

namespace Go.Proofs.YtmmflekajbeamabGreatDoor

/-- An area read to its end: what stands behind it is read on. -/
theorem scW_app : ∀ (n : Nat) (t : List UInt8) (a : ArN) (r : List UInt8), t.length ≤ n → (scW a t).good = a.good + t.length → scW a (t ++ r) = scW (scW a t) r
  | 0, t, a, r, hn, _ => by
    obtain rfl : t = [] := List.length_eq_zero_iff.1 (by omega)
    rw [scW_none a frst_nil, List.nil_append]
  | n + 1, t, a, r, hn, hg => by
    cases hq : frst t with
    | none =>
      rw [scW_none a hq] at hg
      obtain rfl : t = [] := List.length_eq_zero_iff.1 (by omega)
      rw [scW_none a frst_nil, List.nil_append]
    | some x =>
      obtain ⟨k, p⟩ := x
      obtain ⟨h1, h3, hp, hl, htk, _⟩ := frst_some hq
      have e : t = frT k p ++ t.drop (p.length + 8) := by
        have := List.take_append_drop (p.length + 8) t
        rw [htk] at this
        exact this.symm
      generalize t.drop (p.length + 8) = t' at e
      subst e
      rw [List.append_assoc, scW_told a k p _ h1 h3 hp, scW_told a k p t' h1 h3 hp]
      rw [scW_told a k p t' h1 h3 hp] at hg
      rw [List.length_append, frT_len] at hn hg
      cases ha : arT a k p with
      | none =>
        rw [ha] at hg
        simp only at hg
        omega
      | some a' =>
        rw [ha] at hg
        simp only at hg ⊢
        have := (arT_good ha).1
        exact scW_app n t' a' r (by omega) (by omega)
/-- Entries as frames. -/
def enFs (ws : List (List UInt8 × List UInt8)) : List (Nat × List UInt8) := ws.map fun x => (2, enPl x)
theorem enFs_ok {ws : List (List UInt8 × List UInt8)} (h : ∀ x ∈ ws, EnOK x) : ∀ f ∈ enFs ws, FrOK f := fun f hf => by
  obtain ⟨x, hx, rfl⟩ := List.mem_map.1 hf
  refine ⟨by show 1 ≤ 2; decide, by show 2 ≤ 3; decide, ?_⟩
  show (enPl x).length ≤ 200
  have := (h x hx).all
  rw [enPl_len]
  omega
theorem enFs_T : ∀ (ws : List (List UInt8 × List UInt8)), (∀ x ∈ ws, EnOK x) → frsT (enFs ws) = entsT ws
  | [], _ => rfl
  | x :: ws, h => by
    have e : enFs (x :: ws) = (2, enPl x) :: enFs ws := rfl
    rw [e, frsT_cons, entsT_cons, enFs_T ws (fun y hy => h y (List.mem_cons_of_mem _ hy)), enF_told (h x (List.mem_cons_self))]
theorem en_take {ws : List (List UInt8 × List UInt8)} (h : ∀ x ∈ ws, EnOK x) (i : Nat) : ∀ x ∈ ws.take i, EnOK x := fun x hx => h x (List.mem_of_mem_take hx)
theorem enFs_take (ws : List (List UInt8 × List UInt8)) (i : Nat) : (enFs ws).take i = enFs (ws.take i) := by
  unfold enFs
  rw [List.map_take]
/-- Entries behind an area, cut: some of them. -/
theorem ents_cut {t : List UInt8} {g : Nat} {l ws : List (List UInt8 × List UInt8)} (ht : scan t = ⟨g, true, t.length, l⟩) (hg : g ≠ 0) (hx : ∀ x ∈ ws, EnOK x) (m : Nat) (j : List UInt8) (hj : j.length ≤ 3) (hm : m ≤ (t ++ entsT ws).length) (hn : t.length ≤ m) : ∃ i n, scan ((t ++ entsT ws).take m ++ j) = ⟨g, true, n, l ++ ws.take i⟩ := by
  have e : (t ++ entsT ws).take m ++ j = t ++ ((entsT ws).take (m - t.length) ++ j) := by
    rw [List.take_append, List.take_of_length_le hn, List.append_assoc]
  rw [List.length_append] at hm
  rw [e, scan_W, scW_app t.length t ar0 _ (Nat.le_refl _) (by rw [← scan_W, ht]; show t.length = 0 + t.length; omega), ← scan_W, ht]
  have hF := enFs_T ws hx
  obtain ⟨i, hi, he, _⟩ := scW_cut (enFs ws) ⟨g, true, t.length, l⟩ (m - t.length) j (enFs_ok hx) hj (by rw [hF]; omega)
  rw [hF] at he
  rw [he, enFs_take, enFs_T _ (en_take hx i)]
  have q := scW_ents (ws.take i) ⟨g, true, t.length, l⟩ [] hg (en_take hx i)
  rw [List.append_nil] at q
  rw [q, scW_none _ frst_nil]
  exact ⟨i, _, rfl⟩
/-- Entries behind an area. -/
theorem ents_all {t : List UInt8} {g : Nat} {l ws : List (List UInt8 × List UInt8)} (ht : scan t = ⟨g, true, t.length, l⟩) (hg : g ≠ 0) (hx : ∀ x ∈ ws, EnOK x) : scan (t ++ entsT ws) = ⟨g, true, (t ++ entsT ws).length, l ++ ws⟩ := by
  rw [scan_W, scW_app t.length t ar0 _ (Nat.le_refl _) (by rw [← scan_W, ht]; show t.length = 0 + t.length; omega), ← scan_W, ht]
  have q := scW_ents ws ⟨g, true, t.length, l⟩ [] hg hx
  rw [List.append_nil] at q
  rw [q, scW_none _ frst_nil, List.length_append]
def anFs (g : Nat) (ws : List (List UInt8 × List UInt8)) : List (Nat × List UInt8) := (1, numB 4 g) :: (enFs ws ++ [(3, [])])
theorem frsT_app (a b : List (Nat × List UInt8)) : frsT (a ++ b) = frsT a ++ frsT b := by
  unfold frsT
  exact List.flatMap_append
theorem anFs_T (g : Nat) (ws : List (List UInt8 × List UInt8)) (hx : ∀ x ∈ ws, EnOK x) : frsT (anFs g ws) = anewT g ws := by
  have hl4 : (numB 4 g).length = 4 := numB_len 4 g
  have e1 : slT 1 (numB 4 g) = frT 1 (numB 4 g) := by unfold slT; rw [if_pos (by omega)]
  have e3 : slT 3 [] = frT 3 [] := by unfold slT; rw [if_pos (show ([] : List UInt8).length ≤ 200 from Nat.zero_le _)]
  unfold anFs anewT
  rw [frsT_cons, frsT_app, enFs_T ws hx, e1, e3, List.append_assoc]
  have : frsT [(3, [])] = frT 3 [] := by rw [frsT_cons]; exact List.append_nil _
  rw [this]
/-- An area laid anew, cut: it is not whole, or it is all there. -/
theorem anew_cut {g : Nat} {ws : List (List UInt8 × List UInt8)} (h0 : 0 < g) (h1 : g ≤ 4294967295) (hx : ∀ x ∈ ws, EnOK x) (m : Nat) (j : List UInt8) (hj : j.length ≤ 3) (hm : m ≤ (anewT g ws).length) : (scan ((anewT g ws).take m ++ j)).whole = false ∨ ∃ n, scan ((anewT g ws).take m ++ j) = ⟨g, true, n, ws⟩ := by
  have hT := anFs_T g ws hx
  have hl4 : (numB 4 g).length = 4 := numB_len 4 g
  have hok : ∀ f ∈ anFs g ws, FrOK f := fun f hf => by
    rcases List.mem_cons.1 hf with rfl | q
    · exact ⟨by show 1 ≤ 1; decide, by show 1 ≤ 3; decide, by show (numB 4 g).length ≤ 200; omega⟩
    · rcases List.mem_append.1 q with q | q
      · exact enFs_ok hx f q
      · obtain rfl := List.mem_singleton.1 q
        exact ⟨by show 1 ≤ 3; decide, by show 3 ≤ 3; decide, Nat.zero_le _⟩
  obtain ⟨i, hi, he, _⟩ := scW_cut (anFs g ws) ar0 m j hok hj (by rw [hT]; exact hm)
  rw [hT, ← scan_W] at he
  rw [he]
  cases i with
  | zero =>
    left
    show (scW ar0 []).whole = false
    rw [scW_none _ frst_nil]
    rfl
  | succ i =>
    have hlen : (anFs g ws).length = ws.length + 2 := by simp [anFs, enFs]
    by_cases c : i ≤ ws.length
    · left
      have e : (anFs g ws).take (i + 1) = (1, numB 4 g) :: enFs (ws.take i) := by
        unfold anFs
        rw [List.take_succ_cons, List.take_append_of_le_length (by unfold enFs; rw [List.length_map]; exact c), enFs_take]
      rw [e, frsT_cons, enFs_T _ (en_take hx i), scW_told ar0 1 _ _ (by decide) (by decide) (by show (numB 4 g).length ≤ 200; omega), arE_open g h0 h1]
      simp only
      have q := scW_ents (ws.take i) ⟨g, false, 12, []⟩ [] (by show g ≠ 0; omega) (en_take hx i)
      rw [List.append_nil] at q
      rw [q, scW_none _ frst_nil]
    · right
      have e : (anFs g ws).take (i + 1) = anFs g ws := List.take_of_length_le (by omega)
      rw [e, hT, ← scan_W]
      have q := scan_whole g ws [] h0 h1 hx (fun x hx => by cases hx)
      have e0 : anewT g ws ++ entsT [] = anewT g ws := List.append_nil _
      rw [e0, List.append_nil] at q
      exact ⟨_, q⟩
theorem anew_all {g : Nat} {ws : List (List UInt8 × List UInt8)} (h0 : 0 < g) (h1 : g ≤ 4294967295) (hx : ∀ x ∈ ws, EnOK x) : scan (anewT g ws) = ⟨g, true, (anewT g ws).length, ws⟩ := by
  have q := scan_whole g ws [] h0 h1 hx (fun x hx => by cases hx)
  have e0 : anewT g ws ++ entsT [] = anewT g ws := List.append_nil _
  rw [e0, List.append_nil] at q
  exact q
theorem anew_len (g : Nat) (ws : List (List UInt8 × List UInt8)) : (anewT g ws).length = 20 + (entsT ws).length := by
  have hl4 : (numB 4 g).length = 4 := numB_len 4 g
  have e1 : slT 1 (numB 4 g) = frT 1 (numB 4 g) := by unfold slT; rw [if_pos (by omega)]
  have e3 : slT 3 [] = frT 3 [] := by unfold slT; rw [if_pos (show ([] : List UInt8).length ≤ 200 from Nat.zero_le _)]
  unfold anewT
  rw [e1, e3, List.length_append, List.length_append, frT_len, frT_len, hl4]
  show 4 + 8 + (entsT ws).length + 8 = _
  omega
/-- How many bytes an area's entries take, at least. -/
def EnS (l : List (List UInt8 × List UInt8)) : Nat := (l.map fun x => x.1.length + x.2.length + 9).sum
theorem EnS_app (a b : List (List UInt8 × List UInt8)) : EnS (a ++ b) = EnS a + EnS b := by
  unfold EnS
  rw [List.map_append, List.sum_append]
theorem ents_S : ∀ (ws : List (List UInt8 × List UInt8)), (∀ x ∈ ws, EnOK x) → (entsT ws).length = EnS ws
  | [], _ => rfl
  | x :: ws, h => by
    rw [entsT_cons, List.length_append, enF_told (h x (List.mem_cons_self)), frT_len, enPl_len, ents_S ws (fun y hy => h y (List.mem_cons_of_mem _ hy))]
    show _ = x.1.length + x.2.length + 9 + EnS ws
    omega
/-- What an area's bytes hold. -/
def Gd (a : ArN) : Prop := EnS a.list + (if a.gen = 0 then 0 else 12) + (if a.whole = true then 8 else 0) ≤ a.good ∧ ∀ x ∈ a.list, EnOK x
theorem Gd.step {a a' : ArN} {k : Nat} {p : List UInt8} (h : Gd a) (hp : p.length ≤ 200) (e : arT a k p = some a') : Gd a' := by
  unfold arT at e
  split at e
  · rename_i hg
    split at e
    · rename_i hc
      cases e
      refine ⟨?_, h.2⟩
      have q := h.1
      rw [if_pos hg] at q
      simp only
      rw [if_neg hc.2.2]
      have := hc.2.1
      omega
    · cases e
  · rename_i hg
    have q := h.1
    rw [if_neg hg] at q
    split at e
    · split at e
      · rename_i hc
        cases e
        have hL : ((p.drop 1).take (4 * (p.getD 0 0).toNat)).length = 4 * (p.getD 0 0).toNat := by
          rw [List.length_take, List.length_drop]
          omega
        have hD : (p.drop (1 + 4 * (p.getD 0 0).toNat)).length = p.length - (1 + 4 * (p.getD 0 0).toNat) := List.length_drop
        refine ⟨?_, fun x hx => ?_⟩
        · simp only
          rw [if_neg hg, EnS_app]
          show _ + (((p.drop 1).take (4 * (p.getD 0 0).toNat)).length + (p.drop (1 + 4 * (p.getD 0 0).toNat)).length + 9 + 0) + 12 + _ ≤ _
          rw [hL, hD]
          omega
        · rcases List.mem_append.1 hx with r | r
          · exact h.2 x r
          · obtain rfl := List.mem_singleton.1 r
            refine ⟨hc.2.2, ?_⟩
            show ((p.drop 1).take (4 * (p.getD 0 0).toNat)).length + (p.drop (1 + 4 * (p.getD 0 0).toNat)).length ≤ 199
            rw [hL, hD]
            omega
      · cases e
    · split at e
      · split at e
        · rename_i hc
          cases e
          refine ⟨?_, h.2⟩
          rw [hc.1] at q
          simp only [Bool.false_eq_true, if_false] at q
          simp only
          rw [if_neg hg, if_pos trivial]
          omega
        · cases e
      · cases e
theorem Gd.scn : ∀ (f : Nat) (a : ArN) (l : List UInt8), Gd a → Gd (scn f a l)
  | 0, a, l, h => h
  | f + 1, a, l, h => by
    rw [Go.Proofs.YtmmflekajbeamabGreatDoor.scn]
    cases hf : frst l with
    | none => exact h
    | some kp =>
      obtain ⟨k, p⟩ := kp
      simp only
      cases ht : arT a k p with
      | none => exact h
      | some a' =>
        simp only
        obtain ⟨_, _, hp, _⟩ := frst_some hf
        exact Gd.scn f a' _ (h.step hp ht)
theorem scan_gd (l : List UInt8) : Gd (scan l) := Gd.scn _ ar0 l ⟨Nat.zero_le _, fun x h => by cases h⟩
end Go.Proofs.YtmmflekajbeamabGreatDoor

namespace Go.Proofs.YtmmflekajbeamabGreatDoor

end Go.Proofs.YtmmflekajbeamabGreatDoor

namespace Go.Proofs.YtmmflekajbeamabGreatDoor

/-- What a run does not turn. -/
structure Kp (g g' : EgN) : Prop where
  ar : g'.ar = g.ar
  gn : g'.gn = g.gn
  sz : g'.sz = g.sz
  fl : g'.fl = g.fl
  wk : g'.wk = g.wk
theorem Kp.refl (g : EgN) : Kp g g := ⟨rfl, rfl, rfl, rfl, rfl⟩
theorem Kp.trans {a b c : EgN} (h : Kp a b) (k : Kp b c) : Kp a c := ⟨k.ar.trans h.ar, k.gn.trans h.gn, k.sz.trans h.sz, k.fl.trans h.fl, k.wk.trans h.wk⟩
theorem prep_kp (g : EgN) (ws : List Nat) : Kp g (prepE g ws).1 := by
  unfold prepE
  split
  · split <;> exact ⟨rfl, rfl, rfl, rfl, rfl⟩
  · exact ⟨rfl, rfl, rfl, rfl, rfl⟩
theorem plan_kp (g : EgN) (ws : List Nat) : Kp g (planE g ws).1 := by
  unfold planE
  split
  · exact ⟨rfl, rfl, rfl, rfl, rfl⟩
  · have q := prep_kp g ws
    exact ⟨q.ar, q.gn, q.sz, q.fl, q.wk⟩
theorem adv_kp (g : EgN) (fuel : Nat) : Kp g (advE g fuel).1 := by
  unfold advE
  split
  · exact ⟨rfl, rfl, rfl, rfl, rfl⟩
  · have q := plan_kp g (wsZ g.z)
    exact ⟨q.ar, q.gn, q.sz, q.fl, q.wk⟩
theorem runL_kp (fuel : Nat) : ∀ (f : Nat) (g : EgN) (n : Nat), Kp g (runL f g fuel n).1
  | 0, g, n => Kp.refl g
  | f + 1, g, n => by
    rw [runL]
    split
    · exact (adv_kp g _).trans (runL_kp fuel f _ _)
    · exact Kp.refl g
theorem knT_en {l : List KwN} (h : BkOK l) (hp : ∀ x ∈ l, payL x) : ∀ x ∈ knT l, EnOK x := fun x hx => by
  obtain ⟨y, hy, rfl⟩ := List.mem_map.1 hx
  exact ⟨h.blk y hy, hp y hy⟩
theorem mvD_b (d : DvN) : (mvD d).b 0 = d.b 0 ∧ (mvD d).b 1 = d.b 1 := by
  constructor
  · show upd (upd dv0.b 0 (dv0.b 0 ++ d.b 0)) 1 ((mvI d 1).b 1 ++ d.b 1) 0 = _
    rw [upd_ne _ _ _ _ (by decide), upd_at]
    rfl
  · show upd (mvI d 1).b 1 ((mvI d 1).b 1 ++ d.b 1) 1 = _
    rw [upd_at, mvI_nil d 1 1 (Nat.le_refl _)]
    rfl
end Go.Proofs.YtmmflekajbeamabGreatDoor

namespace Go.Proofs.YtmmflekajbeamabGreatDoor

theorem cur2_one {a : ArN} (b : ArN) (ha : a.whole = true) (hb : b.whole = false) : cur2 a b = (0, a.gen) := by
  unfold cur2 cur1
  rw [if_neg (by rw [hb]; intro q; cases q.1), if_pos ha]
theorem cur2_two {a b : ArN} (ha : a.whole = true) (hb : b.whole = true) (h : a.gen < b.gen) : cur2 a b = (1, b.gen) := by
  unfold cur2 cur1
  rw [if_pos ha, if_pos ⟨hb, h⟩]
end Go.Proofs.YtmmflekajbeamabGreatDoor

namespace Go.Proofs.YtmmflekajbeamabGreatDoor

/-- An entry whose plan is its block's own. -/
def Own (x : List UInt8 × List UInt8) : Prop := x.2 = planT (ownP (bya x.1))
theorem fold_all {Q : KwN → Prop} : ∀ (l : List (List UInt8 × List UInt8)) (b : List KwN), (∀ k ∈ b, Q k) → (∀ x ∈ l, blkB (bya x.1) = true → Q (rdW x.1, x.2)) → ∀ k ∈ l.foldl bkAdd b, Q k
  | [], b, hb, _ => hb
  | x :: l, b, hb, hl => by
    refine fold_all l (bkAdd b x) (fun k hk => ?_) (fun y hy => hl y (List.mem_cons_of_mem _ hy))
    unfold bkAdd at hk
    split at hk
    · rename_i hc
      rcases layB_mem hk with q | rfl
      · exact hb k q
      · exact hl x (List.mem_cons_self) hc
    · exact hb k hk
theorem book_own {l : List (List UInt8 × List UInt8)} (h : ∀ x ∈ l, Own x) : ∀ k ∈ bookL l, k.2 = ownT k.1 :=
  fold_all l [] (fun _ h => by cases h) (fun x hx hc => by
    show x.2 = planT (ownP (bya (wdsT (rdW x.1))))
    rw [wds_rdW hc]
    exact h x hx)
theorem book_mem {l : List (List UInt8 × List UInt8)} : ∀ k ∈ bookL l, ∃ x ∈ l, x.1 = wdsT k.1 :=
  fold_all (Q := fun k => ∃ x ∈ l, x.1 = wdsT k.1) l [] (fun _ h => by cases h) (fun x hx hc => ⟨x, hx, (wds_rdW hc).symm⟩)
theorem bkW_fold : ∀ (l : List (List UInt8 × List UInt8)) (b : List KwN) (ws : List Nat), ws ∈ bkW b → ws ∈ bkW (l.foldl bkAdd b)
  | [], _, _, h => h
  | x :: l, b, ws, h => by
    refine bkW_fold l (bkAdd b x) ws ?_
    unfold bkAdd
    split
    · rw [bkW_lay]
      split
      · exact h
      · exact List.mem_append_left _ h
    · exact h
theorem bkW_has : ∀ (l : List (List UInt8 × List UInt8)) (b : List KwN) (x : List UInt8 × List UInt8), x ∈ l → blkB (bya x.1) = true → rdW x.1 ∈ bkW (l.foldl bkAdd b)
  | [], _, _, h, _ => by cases h
  | y :: l, b, x, h, hb => by
    rcases List.mem_cons.1 h with rfl | q
    · refine bkW_fold l (bkAdd b x) _ ?_
      unfold bkAdd
      rw [if_pos hb, bkW_lay]
      split
      · assumption
      · exact List.mem_append_right _ (List.mem_singleton.2 rfl)
    · exact bkW_has l (bkAdd b y) x q hb
theorem book_has {l : List (List UInt8 × List UInt8)} {x : List UInt8 × List UInt8} (h : x ∈ l) (hb : blkB (bya x.1) = true) : ∃ k ∈ bookL l, wdsT k.1 = x.1 := by
  obtain ⟨k, hk, e⟩ := List.mem_map.1 (bkW_has l [] x h hb)
  exact ⟨k, hk, by rw [e, wds_rdW hb]⟩
/-- Sizes. -/
theorem EnS_set : ∀ (l : List KwN) (n : Nat) (k : KwN), EnS (knT (l.set n k)) ≤ EnS (knT l) + ((wdsT k.1).length + k.2.length + 9)
  | [], _, _ => Nat.zero_le _
  | x :: l, 0, k => by
    show (wdsT k.1).length + k.2.length + 9 + EnS (knT l) ≤ (wdsT x.1).length + x.2.length + 9 + EnS (knT l) + _
    omega
  | x :: l, n + 1, k => by
    have := EnS_set l n k
    show (wdsT x.1).length + x.2.length + 9 + EnS (knT (l.set n k)) ≤ (wdsT x.1).length + x.2.length + 9 + EnS (knT l) + _
    omega
theorem EnS_lay (l : List KwN) (ws : List Nat) (p : List UInt8) : EnS (knT (layB l ws p)) ≤ EnS (knT l) + ((wdsT ws).length + p.length + 9) := by
  unfold layB
  split
  · exact EnS_set l _ (ws, p)
  · unfold knT
    rw [List.map_append, EnS_app]
    exact Nat.le_refl _
theorem EnS_fold : ∀ (l : List (List UInt8 × List UInt8)) (b : List KwN), EnS (knT (l.foldl bkAdd b)) ≤ EnS (knT b) + EnS l
  | [], _ => Nat.le_add_right _ _
  | x :: l, b => by
    have h := EnS_fold l (bkAdd b x)
    have h2 : EnS (knT (bkAdd b x)) ≤ EnS (knT b) + (x.1.length + x.2.length + 9) := by
      unfold bkAdd
      split
      · rename_i hc
        have := EnS_lay b (rdW x.1) x.2
        rw [wds_rdW hc] at this
        exact this
      · exact Nat.le_add_right _ _
    show EnS (knT (l.foldl bkAdd (bkAdd b x))) ≤ EnS (knT b) + (x.1.length + x.2.length + 9 + EnS l)
    omega
/-- What may be found of an area's bytes: whole, or cut behind what lasts, with at most three bytes of junk. -/
def Oc (b : List UInt8) (n : Nat) (t : List UInt8) : Prop := ∃ m j, n ≤ m ∧ m ≤ b.length ∧ j.length ≤ 3 ∧ (m = b.length → j = []) ∧ t = b.take m ++ j
theorem Oc.self {b : List UInt8} {n : Nat} (h : n ≤ b.length) : Oc b n b := ⟨b.length, [], h, Nat.le_refl _, Nat.zero_le _, fun _ => rfl, by rw [List.take_length, List.append_nil]⟩
theorem Oc.full {b t : List UInt8} {n : Nat} (hn : n = b.length) (h : Oc b n t) : t = b := by
  obtain ⟨m, j, h1, h2, _, h4, rfl⟩ := h
  have e : m = b.length := by omega
  rw [h4 e, e, List.take_length, List.append_nil]
theorem Oc.less {b t : List UInt8} {n k : Nat} (h : Oc b n t) (hk : k ≤ n) : Oc b k t := by
  obtain ⟨m, j, h1, h2⟩ := h
  exact ⟨m, j, by omega, h2⟩
/-- What a list of entries is to hold. -/
def Te (M : List (List UInt8)) (l : List (List UInt8 × List UInt8)) : Prop := (∀ x ∈ l, Own x) ∧ ∀ s ∈ M, ∃ x ∈ l, x.1 = s
def Tl (M : List (List UInt8)) (G : Nat) (a b : ArN) : Prop :=
  (cur2 a b).2 ≤ G ∧ (((cur2 a b).2 = 0 ∧ M = []) ∨ ((cur2 a b).2 ≠ 0 ∧ Te M (if (cur2 a b).1 = 0 then a else b).list))
/-- Whatever is found: it tells what must be known. -/
def Jd (M : List (List UInt8)) (G : Nat) (d : DvN) : Prop := ∀ t0 t1, Oc (d.b 0) (d.n 0) t0 → Oc (d.b 1) (d.n 1) t1 → Tl M G (scan t0) (scan t1)
theorem Tl.more {M : List (List UInt8)} {G G' : Nat} {a b : ArN} (h : Tl M G a b) (hg : G ≤ G') : Tl M G' a b := ⟨Nat.le_trans h.1 hg, h.2⟩
theorem Jd.more {M : List (List UInt8)} {G G' : Nat} {d : DvN} (h : Jd M G d) (hg : G ≤ G') : Jd M G' d := fun t0 t1 h0 h1 => (h t0 t1 h0 h1).more hg
theorem Jd.same {M : List (List UInt8)} {G : Nat} {d d' : DvN} (h : Jd M G d) (ok : DvOK d) (hb : d'.b = d.b) (hn : ∀ i, i < 2 → d'.n i = d.n i ∨ d'.n i = (d.b i).length) : Jd M G d' := fun t0 t1 h0 h1 => by
  rw [hb] at h0 h1
  have a0 := ok 0 (by decide)
  have a1 := ok 1 (by decide)
  exact h t0 t1 (h0.less (by rcases hn 0 (by decide) with q | q <;> omega)) (h1.less (by rcases hn 1 (by decide) with q | q <;> omega))
/-- The current area and the other. -/
def cuA (ar : Nat) (a o : ArN) : Nat × Nat := if ar = 0 then cur2 a o else cur2 o a
theorem cu_not {ar : Nat} {a o : ArN} (har : ar ≤ 1) (hg : a.gen ≠ 0) (ha : a.whole = true) (ho : o.whole = false) : cuA ar a o = (ar, a.gen) := by
  have : ar = 0 ∨ ar = 1 := by omega
  rcases this with rfl | rfl
  · exact cur2_one o ha ho
  · show cur2 o a = (1, a.gen)
    unfold cur2 cur1
    rw [if_neg (show ¬ o.whole = true by rw [ho]; decide), if_pos ⟨ha, by omega⟩]
theorem cu_up {ar : Nat} {a o : ArN} (har : ar ≤ 1) (ha : a.whole = true) (ho : o.whole = true) (h : o.gen < a.gen) : cuA ar a o = (ar, a.gen) := by
  have : ar = 0 ∨ ar = 1 := by omega
  rcases this with rfl | rfl
  · show cur2 a o = (0, a.gen)
    unfold cur2 cur1
    rw [if_pos ha, if_neg (by omega)]
  · exact cur2_two ho ha h
theorem tl_of {M : List (List UInt8)} {G ar : Nat} {a o : ArN} (hc : cuA ar a o = (ar, a.gen)) (hg : a.gen ≠ 0) (hG : a.gen ≤ G) (h : Te M a.list) : if ar = 0 then Tl M G a o else Tl M G o a := by
  unfold cuA at hc
  split
  · rename_i h0
    rw [if_pos h0] at hc
    unfold Tl
    rw [hc, h0]
    exact ⟨hG, .inr ⟨hg, h⟩⟩
  · rename_i h0
    rw [if_neg h0] at hc
    unfold Tl
    rw [hc]
    simp only
    rw [if_neg h0]
    exact ⟨hG, .inr ⟨hg, h⟩⟩
theorem jd_of {M : List (List UInt8)} {G ar : Nat} {d : DvN} (har : ar ≤ 1) (hn : d.n ar = (d.b ar).length) (h : ∀ t, Oc (d.b (1 - ar)) (d.n (1 - ar)) t → if ar = 0 then Tl M G (scan (d.b ar)) (scan t) else Tl M G (scan t) (scan (d.b ar))) : Jd M G d := by
  have : ar = 0 ∨ ar = 1 := by omega
  rcases this with rfl | rfl
  · intro t0 t1 h0 h1
    obtain rfl := h0.full hn
    have q := h t1 h1
    rw [if_pos rfl] at q
    exact q
  · intro t0 t1 h0 h1
    obtain rfl := h1.full hn
    have q := h t0 h0
    rw [if_neg (by decide)] at q
    exact q
/-- An engine at work over a device: it knows what its area tells; the other area tells less. -/
structure Kd (M : List (List UInt8)) (G : Nat) (g : EgN) (d : DvN) : Prop where
  ar : g.ar ≤ 1
  gn : g.gn ≠ 0
  le : g.gn ≤ G
  n : d.n g.ar = (d.b g.ar).length
  sg : (scan (d.b g.ar)).gen = g.gn
  sw : (scan (d.b g.ar)).whole = true
  sl : bookL (scan (d.b g.ar)).list = g.b 0
  so : ∀ x ∈ (scan (d.b g.ar)).list, Own x
  ot : ∀ t, Oc (d.b (1 - g.ar)) (d.n (1 - g.ar)) t → cuA g.ar (scan (d.b g.ar)) (scan t) = (g.ar, g.gn)
  mu : ∀ s ∈ M, ∃ k ∈ g.b 0, wdsT k.1 = s
theorem Kd.te {M : List (List UInt8)} {G : Nat} {g : EgN} {d : DvN} (h : Kd M G g d) : Te M (scan (d.b g.ar)).list := ⟨h.so, fun s hs => by
  obtain ⟨k, hk, rfl⟩ := h.mu s hs
  rw [← h.sl] at hk
  exact book_mem k hk⟩
theorem Kd.jd {M : List (List UInt8)} {G : Nat} {g : EgN} {d : DvN} (h : Kd M G g d) : Jd M G d :=
  jd_of h.ar h.n (fun t ht => tl_of (by rw [h.ot t ht, h.sg]) (by rw [h.sg]; exact h.gn) (by rw [h.sg]; exact h.le) h.te)
theorem Kd.of {M M' : List (List UInt8)} {G G' : Nat} {g g' : EgN} {d d' : DvN} (h : Kd M G g d) (hG : G ≤ G') (ha : g'.ar = g.ar) (hgn : g'.gn = g.gn) (hb : g'.b 0 = g.b 0) (db : d'.b = d.b) (dn : d'.n = d.n) (hM : ∀ s ∈ M', ∃ k ∈ g.b 0, wdsT k.1 = s) : Kd M' G' g' d' := by
  refine ⟨by rw [ha]; exact h.ar, by rw [hgn]; exact h.gn, by rw [hgn]; exact Nat.le_trans h.le hG, ?_, ?_, ?_, ?_, ?_, ?_, by rw [hb]; exact hM⟩
  · rw [db, dn, ha]; exact h.n
  · rw [db, ha, hgn]; exact h.sg
  · rw [db, ha]; exact h.sw
  · rw [db, ha, hb]; exact h.sl
  · rw [db, ha]; exact h.so
  · rw [db, dn, ha, hgn]; exact h.ot
/-- The area is read to its end. -/
structure Kf (M : List (List UInt8)) (G : Nat) (g : EgN) (d : DvN) : Prop where
  k : Kd M G g d
  gd : (scan (d.b g.ar)).good = (d.b g.ar).length
  sz : g.sz = (d.b g.ar).length
theorem Kf.sc {M : List (List UInt8)} {G : Nat} {g : EgN} {d : DvN} (h : Kf M G g d) : scan (d.b g.ar) = ⟨g.gn, true, (d.b g.ar).length, (scan (d.b g.ar)).list⟩ := by
  have h1 := h.k.sg; have h2 := h.k.sw; have h3 := h.gd
  generalize scan (d.b g.ar) = A at *
  obtain ⟨a, b, c, l⟩ := A
  simp only at h1 h2 h3
  rw [h1, h2, h3]
theorem Kf.of {M M' : List (List UInt8)} {G G' : Nat} {g g' : EgN} {d d' : DvN} (h : Kf M G g d) (hG : G ≤ G') (ha : g'.ar = g.ar) (hgn : g'.gn = g.gn) (hs : g'.sz = g.sz) (hb : g'.b 0 = g.b 0) (db : d'.b = d.b) (dn : d'.n = d.n) (hM : ∀ s ∈ M', ∃ k ∈ g.b 0, wdsT k.1 = s) : Kf M' G' g' d' :=
  ⟨h.k.of hG ha hgn hb db dn hM, by rw [db, ha]; exact h.gd, by rw [hs, db, ha]; exact h.sz⟩
/-- What an engine's books keep to where all plans are their blocks' own. -/
structure Ow (g : EgN) : Prop where
  o0 : ∀ k ∈ g.b 0, k.2 = ownT k.1
  o1 : ∀ k ∈ g.b 1, k.2 = ownT k.1
  ap : ∀ ws, ws ∈ bkW (g.b 1) → ws ∉ bkW (g.b 0)
theorem kn_own {l : List KwN} (h : ∀ k ∈ l, k.2 = ownT k.1) : ∀ x ∈ knT l, Own x := fun x hx => by
  obtain ⟨k, hk, rfl⟩ := List.mem_map.1 hx
  exact h k hk
theorem Ow.tog {g : EgN} (h : Ow g) : ∀ k ∈ togB g, k.2 = ownT k.1 := book_own (fun x hx => by
  rcases List.mem_append.1 hx with q | q
  · exact kn_own h.o0 x q
  · exact kn_own h.o1 x q)
/-- What is known and what waits are apart: together they are as many. -/
theorem Ow.tog_eq {g : EgN} (h : Ow g) (p : GPu g) : togB g = g.b 0 ++ g.b 1 := by
  have b0 := p.bk 0 (by decide)
  have b1 := p.bk 1 (by decide)
  have hb : BkOK (g.b 0 ++ g.b 1) := by
    refine ⟨fun k hk => ?_, fun k hk => ?_, ?_⟩
    · rcases List.mem_append.1 hk with q | q
      · exact b0.ok k q
      · exact b1.ok k q
    · rcases List.mem_append.1 hk with q | q
      · exact b0.blk k q
      · exact b1.blk k q
    · unfold bkW
      rw [List.map_append, List.nodup_append]
      exact ⟨b0.one, b1.one, fun a ha b hb e => h.ap b hb (e ▸ ha)⟩
  unfold togB bookL
  rw [List.foldl_append]
  have q := bookL_self b0
  unfold bookL at q
  rw [q]
  exact fold_self _ _ hb
theorem Ow.learn {g : EgN} (h : Ow g) (a n s : Nat) : Ow (learnE { g with ar := a, gn := n, sz := s }) := by
  obtain ⟨e0, e1, _⟩ := learn_b { g with ar := a, gn := n, sz := s }
  refine ⟨?_, ?_, ?_⟩
  · rw [e0]; exact h.tog
  · rw [e1]; intro k hk; cases hk
  · rw [e1]; intro ws hw; cases hw
theorem Ow.of {g g' : EgN} (h : Ow g) (e : g'.b = g.b) : Ow g' := ⟨by rw [e]; exact h.o0, by rw [e]; exact h.o1, by rw [e]; exact h.ap⟩
theorem Ow.prep {g : EgN} (h : Ow g) {ws : List Nat} (hb : blkOK (bya (wdsT ws))) : Ow (prepE g ws).1 ∧ (prepE g ws).1.b 0 = g.b 0 := by
  unfold prepE
  split
  · rename_i p hq
    obtain ⟨n, hn, _⟩ := fB_some hq
    have hm := List.mem_of_getElem? hn
    have hp : p = ownT ws := h.o0 _ hm
    rw [if_pos (by rw [hp]; exact (accB_iff _ _).2 (own_acc hb))]
    exact ⟨h.of rfl, rfl⟩
  · rename_i hq
    have e0 : (layG (ctE g 3) 1 ws (ownT ws)).b 0 = g.b 0 := by
      show upd g.b 1 (layB (g.b 1) ws (ownT ws)) 0 = _
      rw [upd_ne _ _ _ _ (by decide)]
    have e1 : (layG (ctE g 3) 1 ws (ownT ws)).b 1 = layB (g.b 1) ws (ownT ws) := by
      show upd g.b 1 (layB (g.b 1) ws (ownT ws)) 1 = _
      rw [upd_at]
    refine ⟨⟨by rw [e0]; exact h.o0, ?_, ?_⟩, e0⟩
    · rw [e1]
      intro k hk
      rcases layB_mem hk with q | rfl
      · exact h.o1 k q
      · rfl
    · rw [e0, e1, bkW_lay]
      intro v hv
      split at hv
      · exact h.ap v hv
      · rcases List.mem_append.1 hv with q | q
        · exact h.ap v q
        · obtain rfl := List.mem_singleton.1 q
          exact fB_none hq
theorem Ow.plan {g : EgN} (h : Ow g) {ws : List Nat} (hb : blkOK (bya (wdsT ws))) : Ow (planE g ws).1 ∧ (planE g ws).1.b 0 = g.b 0 := by
  unfold planE
  split
  · exact ⟨h.of rfl, rfl⟩
  · obtain ⟨a, e⟩ := h.prep hb
    have e0 : ∀ p, (layG (prepE g ws).1 2 ws p).b 0 = (prepE g ws).1.b 0 := fun p => by
      show upd (prepE g ws).1.b 2 (layB ((prepE g ws).1.b 2) ws p) 0 = _
      rw [upd_ne _ _ _ _ (by decide)]
    have e1 : ∀ p, (layG (prepE g ws).1 2 ws p).b 1 = (prepE g ws).1.b 1 := fun p => by
      show upd (prepE g ws).1.b 2 (layB ((prepE g ws).1.b 2) ws p) 1 = _
      rw [upd_ne _ _ _ _ (by decide)]
    exact ⟨⟨by rw [e0]; exact a.o0, by rw [e1]; exact a.o1, by rw [e0, e1]; exact a.ap⟩, (e0 _).trans e⟩
theorem Ow.adv {g : EgN} (h : Ow g) (hz : RunOK g.z) (fuel : Nat) : Ow (advE g fuel).1 ∧ (advE g fuel).1.b 0 = g.b 0 := by
  unfold advE
  split
  · exact ⟨h.of rfl, rfl⟩
  · obtain ⟨a, e⟩ := h.plan hz.blk
    exact ⟨a.of rfl, e⟩
theorem Ow.runL (fuel : Nat) : ∀ (f : Nat) (g : EgN) (k n : Nat), Ow g → RunG g k → Ow (runL f g fuel n).1 ∧ (Go.Proofs.YtmmflekajbeamabGreatDoor.runL f g fuel n).1.b 0 = g.b 0
  | 0, g, k, n, h, _ => ⟨h, rfl⟩
  | f + 1, g, k, n, h, hg => by
    rw [Go.Proofs.YtmmflekajbeamabGreatDoor.runL]
    split
    · rename_i hc
      obtain ⟨a, e⟩ := h.adv hg.z (fuel - n)
      obtain ⟨b, e'⟩ := Ow.runL fuel f _ (k + 4) (n + (advE g (fuel - n)).2) a (advE_ok hg hc.1 (fuel - n)).1
      exact ⟨b, e'.trans e⟩
    · exact ⟨h, rfl⟩
end Go.Proofs.YtmmflekajbeamabGreatDoor
