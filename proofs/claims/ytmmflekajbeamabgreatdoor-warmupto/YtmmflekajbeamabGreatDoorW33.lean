/-
  Faithful: what an engine's calls leave of the machine and of the device, and which numbers they answer.
  Areas that an engine has written, read back: plain mathematics.
  Warm: an engine that knows all that another has translated runs as that one did: plain mathematics.
  Faithful: Run of the bench (runs).
  Faithful: Run of the bench, of an engine that is not over.
-/
import Derived.Test.YtmmflekajbeamabGreatDoorW32
import Derived.Test.YtmmflekajbeamabGreatDoorW14
import Derived.Deep.MidRow
import Derived.BigQuiet
namespace Go.Proofs.YtmmflekajbeamabGreatDoor

/-- What every turn of a device keeps. -/
structure Clo (P : DvN → Prop) : Prop where
  add : ∀ d i s, P d → P (dAdd d i s).2
  clear : ∀ d i, P d → P (dClear d i).2
  sync : ∀ d i, P d → P (dSync d i).2
  read : ∀ d i, P d → P (dRead d i).2.2
theorem clo_wk (c : Int) : Clo (fun d => d.wk = c) := by
  refine ⟨fun d i s h => ?_, fun d i h => ?_, fun d i h => ?_, fun d i h => ?_⟩
  · show (dAdd d i s).2.wk = c; unfold dAdd; (repeat' split) <;> exact h
  · show (dClear d i).2.wk = c; unfold dClear; (repeat' split) <;> exact h
  · show (dSync d i).2.wk = c; unfold dSync; (repeat' split) <;> exact h
  · show (dRead d i).2.2.wk = c; unfold dRead; (repeat' split) <;> exact h
theorem clo_ok : Clo DvOK := by
  refine ⟨fun d i s h => ?_, fun d i h => ?_, fun d i h => ?_, fun d i h => ?_⟩
  · unfold dAdd
    (repeat' split)
    · exact h
    · exact h
    · exact h
    · intro j hj
      show d.n j ≤ (upd d.b i.toNat (d.b i.toNat ++ s) j).length
      unfold upd
      split
      · rename_i e; rw [e, List.length_append, ← e]; have := h j hj; omega
      · exact h j hj
  · unfold dClear
    (repeat' split)
    · exact h
    · exact h
    · intro j hj
      show upd d.n i.toNat 0 j ≤ (upd d.b i.toNat [] j).length
      unfold upd
      split
      · exact Nat.le_refl _
      · exact h j hj
  · unfold dSync
    (repeat' split)
    · exact h
    · exact h
    · intro j hj
      show upd d.n i.toNat (d.b i.toNat).length j ≤ (d.b j).length
      unfold upd
      split
      · rename_i e; rw [e]; exact Nat.le_refl _
      · exact h j hj
  · unfold dRead
    (repeat' split) <;> exact h
theorem lay_clo {P : DvN → Prop} (h : Clo P) (g : EgN) (d : DvN) (i : Int) (s : List UInt8) (hd : P d) : P (layE dOps g d i s).2.2 := by
  rw [layE_d]
  (repeat' split)
  · exact h.sync _ _ (h.add _ _ _ hd)
  · exact h.sync _ _ (h.add _ _ _ hd)
  · exact h.add _ _ _ hd
theorem anew_clo {P : DvN → Prop} (h : Clo P) (g : EgN) (d : DvN) (i : Nat) (hd : P d) : P (anewE dOps g d i).2.2 := by
  unfold anewE
  (repeat' split)
  · exact hd
  · exact hd
  · exact lay_clo h _ _ _ _ (h.clear _ _ hd)
  · exact lay_clo h _ _ _ _ (h.clear _ _ hd)
  · exact h.clear _ _ hd
theorem read_clo {P : DvN → Prop} (h : Clo P) (g : EgN) (d : DvN) (hd : P d) : P (readE dOps g d).2.2.1 := by
  rw [readE_d]
  (repeat' split)
  · exact h.read _ _ (h.read _ _ (h.sync _ _ (h.sync _ _ hd)))
  · exact h.read _ _ (h.read _ _ (h.sync _ _ (h.sync _ _ hd)))
  · exact h.read _ _ (h.sync _ _ (h.sync _ _ hd))
  · exact h.sync _ _ (h.sync _ _ hd)
  · exact h.sync _ _ hd
theorem find_clo {P : DvN → Prop} (h : Clo P) (g : EgN) (d : DvN) (t0 t1 : List UInt8) (hd : P d) : P (findE dOps g d t0 t1).2.2 := by
  unfold findE
  (repeat' split) <;> first | exact anew_clo h _ _ _ hd | exact hd
theorem open_clo {P : DvN → Prop} (h : Clo P) (g : EgN) (d : DvN) (hd : P d) : P (openE dOps g d).2.2 := by
  unfold openE
  split
  · exact find_clo h _ _ _ _ (read_clo h g d hd)
  · exact read_clo h g d hd
theorem pers_clo {P : DvN → Prop} (h : Clo P) (g : EgN) (d : DvN) (hd : P d) : P (persE dOps g d).2.2 := by
  unfold persE
  (repeat' split)
  · exact hd
  · exact anew_clo h _ _ _ hd
  · exact lay_clo h _ _ _ _ hd
  · exact lay_clo h _ _ _ _ hd
theorem anewE_z {α : Type} (o : Dev α) (g : EgN) (d : α) (i : Nat) : (anewE o g d i).2.1.z = g.z := by
  unfold anewE
  (repeat' split) <;> rfl
theorem findE_z {α : Type} (o : Dev α) (g : EgN) (d : α) (t0 t1 : List UInt8) : (findE o g d t0 t1).2.1.z = g.z := by
  unfold findE
  (repeat' split) <;> first | exact anewE_z _ _ _ _ | rfl
theorem readE_z {α : Type} (o : Dev α) (g : EgN) (d : α) : (readE o g d).2.1.z = g.z := by
  unfold readE
  (repeat' split) <;> rfl
theorem openE_z {α : Type} (o : Dev α) (g : EgN) (d : α) : (openE o g d).2.1.z = g.z := by
  unfold openE
  split
  · rw [findE_z, readE_z]
  · exact readE_z _ _ _
theorem persE_z {α : Type} (o : Dev α) (g : EgN) (d : α) : (persE o g d).2.1.z = g.z := by
  unfold persE
  split
  · rfl
  · split
    · exact anewE_z _ _ _ _
    · split <;> rfl
/-- The numbers that an engine's calls may answer: OK, ErrFull, ErrDevice, ErrSpent. -/
def isCd (n : Int) : Prop := n = 0 ∨ n = 14 ∨ n = 15 ∨ n = 16
theorem anew_code {α : Type} (o : Dev α) (g : EgN) (d : α) (i : Nat) : isCd (anewE o g d i).1 := by
  unfold anewE isCd
  (repeat' split) <;> simp
theorem find_code {α : Type} (o : Dev α) (g : EgN) (d : α) (t0 t1 : List UInt8) : isCd (findE o g d t0 t1).1 := by
  unfold findE
  (repeat' split) <;> first | exact anew_code _ _ _ _ | exact .inl rfl
theorem read_code {α : Type} (o : Dev α) (g : EgN) (d : α) : isCd (readE o g d).1 := by
  unfold readE isCd
  (repeat' split) <;> simp
theorem open_code {α : Type} (o : Dev α) (g : EgN) (d : α) : isCd (openE o g d).1 := by
  unfold openE
  split
  · exact find_code _ _ _ _ _
  · exact read_code _ _ _
theorem pers_code {α : Type} (o : Dev α) (g : EgN) (d : α) : isCd (persE o g d).1 := by
  unfold persE
  (repeat' split)
  · exact .inl rfl
  · exact anew_code _ _ _ _
  · exact .inl rfl
  · exact .inr (.inr (.inl rfl))
/-- Behind an OK nothing waits. -/
theorem learn_wait (g : EgN) : (learnE g).b 1 = [] := (show upd (upd g.b 0 (togB g)) 1 [] 1 = [] from upd_at _ _ _)
theorem anew_wait {α : Type} (o : Dev α) (g : EgN) (d : α) (i : Nat) (h : (anewE o g d i).1 = 0) : (anewE o g d i).2.1.b 1 = [] := by
  unfold anewE at h ⊢
  (repeat' split at h) <;> first | (cases h; done) | skip
  rename_i c1 c2 c3 c4
  rw [if_neg c1, if_neg c2, if_pos c3, if_pos c4]
  exact learn_wait _
theorem pers_wait {α : Type} (o : Dev α) (g : EgN) (d : α) (h : (persE o g d).1 = 0) : (persE o g d).2.1.b 1 = [] := by
  unfold persE at h ⊢
  by_cases c1 : (g.b 1).length = 0
  · rw [if_pos c1]
    exact List.length_eq_zero_iff.1 c1
  · rw [if_neg c1] at h ⊢
    by_cases c2 : 1500 < g.sz + (entsT (knT (g.b 1))).length
    · rw [if_pos c2] at h ⊢
      exact anew_wait _ _ _ _ h
    · rw [if_neg c2] at h ⊢
      by_cases c3 : (layE o g d (g.ar : Int) (entsT (knT (g.b 1)))).1 = 0
      · rw [if_pos c3]
        exact learn_wait _
      · rw [if_neg c3] at h
        cases h
end Go.Proofs.YtmmflekajbeamabGreatDoor

namespace Go.Proofs.YtmmflekajbeamabGreatDoor

/-- Frames from where one stands, whatever the fuel. -/
def scW (a : ArN) (l : List UInt8) : ArN := scn (l.length + 1) a l
theorem scan_W (l : List UInt8) : scan l = scW ar0 l := rfl
theorem scW_none {l : List UInt8} (a : ArN) (h : frst l = none) : scW a l = a := by
  unfold scW
  rw [scn, h]
theorem scW_told (a : ArN) (k : Nat) (p r : List UInt8) (h1 : 1 ≤ k) (h3 : k ≤ 3) (hp : p.length ≤ 200) : scW a (frT k p ++ r) = match arT a k p with | none => a | some a' => scW a' r := by
  unfold scW
  rw [scn, frst_told k p r h1 h3 hp]
  simp only
  cases hq : arT a k p with
  | none => rfl
  | some a' =>
    simp only
    rw [← frT_len k p, List.drop_left' rfl]
    refine scn_more _ _ _ _ (by omega) ?_
    rw [List.length_append, frT_len]
    omega
/-- An entry that may stand in an area. -/
structure EnOK (x : List UInt8 × List UInt8) : Prop where
  blk : blkB (bya x.1) = true
  all : x.1.length + x.2.length ≤ 199
theorem EnOK.len {x : List UInt8 × List UInt8} (h : EnOK x) : 4 ≤ x.1.length ∧ x.1.length ≤ 32 ∧ x.1.length % 4 = 0 := by
  have q := (blkB_iff _).1 h.blk
  have e : (bya x.1).size = x.1.length := bya_size x.1
  unfold blkOK at q
  rw [e] at q
  exact ⟨q.1, q.2.1, q.2.2.1⟩
theorem enPl_len (x : List UInt8 × List UInt8) : (enPl x).length = 1 + (x.1.length + x.2.length) := by
  unfold enPl
  rw [List.length_append, List.length_append, numB_len]
  omega
theorem enF_told {x : List UInt8 × List UInt8} (h : EnOK x) : enF x = frT 2 (enPl x) := by
  unfold enF slT
  rw [if_pos (by rw [enPl_len]; have := h.all; omega)]
theorem arE_ent (a : ArN) (x : List UInt8 × List UInt8) (hg : a.gen ≠ 0) (hx : EnOK x) : arT a 2 (enPl x) = some ⟨a.gen, a.whole, a.good + ((enPl x).length + 8), a.list ++ [x]⟩ := by
  obtain ⟨l4, l32, lm⟩ := hx.len
  have hblk := hx.blk
  have hL := enPl_len x
  obtain ⟨b, p⟩ := x
  simp only at l4 l32 lm hblk hL
  have e1 : enPl (b, p) = UInt8.ofNat (b.length / 4 % 256) :: (b ++ p) := by simp [enPl, numB]
  have hc : ((enPl (b, p)).getD 0 0).toNat = b.length / 4 := by
    rw [e1, List.getD_cons_zero, UInt8.toNat_ofNat']
    omega
  have h4 : 4 * (b.length / 4) = b.length := by omega
  have hne : enPl (b, p) ≠ [] := by rw [e1]; exact List.cons_ne_nil _ _
  have hd : (enPl (b, p)).drop 1 = b ++ p := by rw [e1]; rfl
  unfold arT
  rw [if_neg hg, if_pos rfl, hc, h4, hd, List.take_left' rfl, if_pos ⟨hne, by omega, hblk⟩, ← List.drop_drop, hd, List.drop_left' rfl]
theorem entsT_cons (x : List UInt8 × List UInt8) (ws : List (List UInt8 × List UInt8)) : entsT (x :: ws) = enF x ++ entsT ws := by
  unfold entsT
  exact List.flatMap_cons
theorem scW_ents : ∀ (ws : List (List UInt8 × List UInt8)) (a : ArN) (r : List UInt8), a.gen ≠ 0 → (∀ x ∈ ws, EnOK x) → scW a (entsT ws ++ r) = scW ⟨a.gen, a.whole, a.good + (entsT ws).length, a.list ++ ws⟩ r
  | [], a, r, _, _ => by
    obtain ⟨g, w, o, l⟩ := a
    show scW _ r = scW ⟨g, w, o + 0, l ++ []⟩ r
    rw [List.append_nil]
    rfl
  | x :: ws, a, r, hg, hx => by
    have hx0 := hx x (List.mem_cons_self)
    rw [entsT_cons, List.append_assoc, enF_told hx0, scW_told a 2 _ _ (by decide) (by decide) (by rw [enPl_len]; have := hx0.all; omega), arE_ent a x hg hx0]
    simp only
    rw [scW_ents ws ⟨a.gen, a.whole, a.good + ((enPl x).length + 8), a.list ++ [x]⟩ r hg (fun y hy => hx y (List.mem_cons_of_mem _ hy))]
    simp only [List.length_append, frT_len, List.append_assoc, List.singleton_append]
    congr 2
    omega
theorem arE_open (g : Nat) (h0 : 0 < g) (h1 : g ≤ 4294967295) : arT ar0 1 (numB 4 g) = some ⟨g, false, 12, []⟩ := by
  have hl4 : (numB 4 g).length = 4 := numB_len 4 g
  have hbe : beN (bya (numB 4 g)) 0 4 = g := by
    have := numB_be (bya (numB 4 g)) 0
    refine numB_inj4 (by have := beN_lt (bya (numB 4 g)) 0 4; omega) (by omega) (this.trans ?_)
    simp [numB, bya, ByteArray.get!]
  unfold arT
  rw [if_pos (show ar0.gen = 0 from rfl), hbe, if_pos ⟨rfl, hl4, by omega⟩, hl4]
  rfl
/-- An area laid down whole, and what stands behind it. -/
theorem scan_anew (g : Nat) (ws : List (List UInt8 × List UInt8)) (r : List UInt8) (h0 : 0 < g) (h1 : g ≤ 4294967295) (hx : ∀ x ∈ ws, EnOK x) : scan (anewT g ws ++ r) = scW ⟨g, true, (anewT g ws).length, ws⟩ r := by
  have hl4 : (numB 4 g).length = 4 := numB_len 4 g
  have e1 : slT 1 (numB 4 g) = frT 1 (numB 4 g) := by unfold slT; rw [if_pos (by omega)]
  have e3 : slT 3 [] = frT 3 [] := by unfold slT; rw [if_pos (show ([] : List UInt8).length ≤ 200 from Nat.zero_le _)]
  have el : (anewT g ws).length = 12 + (entsT ws).length + 8 := by
    unfold anewT
    rw [e1, e3, List.length_append, List.length_append, frT_len, frT_len, hl4]
    rfl
  rw [el, scan_W]
  unfold anewT
  rw [e1, e3, List.append_assoc, List.append_assoc, scW_told ar0 1 _ _ (by decide) (by decide) (by omega), arE_open g h0 h1]
  simp only
  rw [scW_ents ws ⟨g, false, 12, []⟩ _ (by show g ≠ 0; omega) hx, scW_told _ 3 [] r (by decide) (by decide) (Nat.zero_le _)]
  have ha : arT ⟨g, false, 12 + (entsT ws).length, ws⟩ 3 [] = some ⟨g, true, 12 + (entsT ws).length + 8, ws⟩ := by
    unfold arT
    rw [if_neg (by show g ≠ 0; omega), if_neg (by decide), if_pos rfl, if_pos ⟨rfl, rfl⟩]
    rfl
  simp only [List.nil_append]
  rw [ha]
theorem frst_nil : frst [] = none := rfl
theorem scan_whole (g : Nat) (ws vs : List (List UInt8 × List UInt8)) (h0 : 0 < g) (h1 : g ≤ 4294967295) (hx : ∀ x ∈ ws, EnOK x) (hv : ∀ x ∈ vs, EnOK x) : scan (anewT g ws ++ entsT vs) = ⟨g, true, (anewT g ws ++ entsT vs).length, ws ++ vs⟩ := by
  have e : anewT g ws ++ entsT vs = anewT g ws ++ (entsT vs ++ []) := by rw [List.append_nil]
  rw [e, scan_anew g ws _ h0 h1 hx, scW_ents vs _ [] (by show g ≠ 0; omega) hv, scW_none _ frst_nil, List.append_nil, List.length_append]
end Go.Proofs.YtmmflekajbeamabGreatDoor

namespace Go.Proofs.YtmmflekajbeamabGreatDoor

/-- An engine that knows nothing: all that it has made ready waits. -/
structure E1 (g : EgN) : Prop where
  b0 : g.b 0 = []
  b12 : g.b 1 = g.b 2
  own : ∀ x ∈ g.b 1, x.2 = ownT x.1
  c1 : g.c 1 = 0
  c2 : g.c 2 = 0
  c3 : g.c 3 = (g.b 1).length
  blk : ∀ x ∈ g.b 1, blkOK (bya (wdsT x.1))
/-- Two engines: the second knows K. -/
structure E2 (K : List KwN) (g h : EgN) : Prop where
  z : h.z = g.z
  b0 : h.b 0 = K
  b1 : h.b 1 = []
  b2 : h.b 2 = g.b 2
  c0 : h.c 0 = g.c 0
  c1 : h.c 1 = g.c 3
  c2 : h.c 2 = 0
  c3 : h.c 3 = 0
theorem fB_nil (ws : List Nat) : fB [] ws = none := rfl
theorem fB_not {l : List KwN} {ws : List Nat} (h : fB l ws = none) : (bkW l).findIdx? (· == ws) = none := by
  unfold fB at h
  cases hq : (bkW l).findIdx? (· == ws) with
  | none => rfl
  | some n => rw [hq] at h; cases h
theorem layB_new {l : List KwN} {ws : List Nat} {p : List UInt8} (h : fB l ws = none) : layB l ws p = l ++ [(ws, p)] := by
  unfold layB
  rw [fB_not h]
theorem planE_found {g : EgN} {ws : List Nat} {p : List UInt8} (h : fB (g.b 2) ws = some p) : planE g ws = (ctE g 0, p) := by
  unfold planE
  rw [h]
theorem prepE_new {g : EgN} {ws : List Nat} (h : g.b 0 = []) : prepE g ws = (layG (ctE g 3) 1 ws (ownT ws), ownT ws) := by
  unfold prepE
  rw [h, fB_nil]
theorem planE_fresh {g : EgN} {ws : List Nat} (h0 : g.b 0 = []) (h : fB (g.b 2) ws = none) : planE g ws = (layG (layG (ctE g 3) 1 ws (ownT ws)) 2 ws (ownT ws), ownT ws) := by
  unfold planE
  rw [h, prepE_new h0]
theorem planE_known {g : EgN} {ws : List Nat} {p : List UInt8} (h0 : fB (g.b 0) ws = some p) (ha : accB (wdsT ws) p = true) (h : fB (g.b 2) ws = none) : planE g ws = (layG (ctE g 1) 2 ws p, p) := by
  unfold planE prepE
  rw [h, h0]
  simp only
  rw [if_pos ha]
/-- What a block laid by the first engine leaves. -/
theorem E1.plan {g : EgN} {ws : List Nat} (h : E1 g) (hb : blkOK (bya (wdsT ws))) : E1 (planE g ws).1 ∧ ∃ r, (planE g ws).1.b 1 = g.b 1 ++ r := by
  cases hq : fB (g.b 2) ws with
  | some p =>
    rw [planE_found hq]
    refine ⟨⟨h.b0, h.b12, h.own, ?_, ?_, ?_, h.blk⟩, [], by rw [List.append_nil]; rfl⟩
    · show upd g.c 0 (g.c 0 + 1) 1 = 0
      rw [upd_ne _ _ _ _ (by decide)]; exact h.c1
    · show upd g.c 0 (g.c 0 + 1) 2 = 0
      rw [upd_ne _ _ _ _ (by decide)]; exact h.c2
    · show upd g.c 0 (g.c 0 + 1) 3 = (g.b 1).length
      rw [upd_ne _ _ _ _ (by decide)]; exact h.c3
  | none =>
    rw [planE_fresh h.b0 hq]
    have hq1 : fB (g.b 1) ws = none := by rw [h.b12]; exact hq
    have e1 : (layG (layG (ctE g 3) 1 ws (ownT ws)) 2 ws (ownT ws)).b 1 = g.b 1 ++ [(ws, ownT ws)] := by
      show upd (upd g.b 1 (layB (g.b 1) ws (ownT ws))) 2 (layB (upd g.b 1 (layB (g.b 1) ws (ownT ws)) 2) ws (ownT ws)) 1 = _
      rw [upd_ne _ _ _ _ (by decide), upd_at, layB_new hq1]
    have e2 : (layG (layG (ctE g 3) 1 ws (ownT ws)) 2 ws (ownT ws)).b 2 = g.b 2 ++ [(ws, ownT ws)] := by
      show upd (upd g.b 1 (layB (g.b 1) ws (ownT ws))) 2 (layB (upd g.b 1 (layB (g.b 1) ws (ownT ws)) 2) ws (ownT ws)) 2 = _
      rw [upd_at, upd_ne _ _ _ _ (by decide), layB_new hq]
    refine ⟨⟨?_, ?_, ?_, ?_, ?_, ?_, ?_⟩, [(ws, ownT ws)], e1⟩
    · show upd (upd g.b 1 (layB (g.b 1) ws (ownT ws))) 2 (layB (upd g.b 1 (layB (g.b 1) ws (ownT ws)) 2) ws (ownT ws)) 0 = []
      rw [upd_ne _ _ _ _ (by decide), upd_ne _ _ _ _ (by decide)]; exact h.b0
    · simp only
      rw [e1, e2, h.b12]
    · simp only
      rw [e1]
      intro x hx
      rcases List.mem_append.1 hx with q | q
      · exact h.own x q
      · obtain rfl := List.mem_singleton.1 q; rfl
    · show upd g.c 3 (g.c 3 + 1) 1 = 0
      rw [upd_ne _ _ _ _ (by decide)]; exact h.c1
    · show upd g.c 3 (g.c 3 + 1) 2 = 0
      rw [upd_ne _ _ _ _ (by decide)]; exact h.c2
    · simp only
      rw [e1, List.length_append]
      show upd g.c 3 (g.c 3 + 1) 3 = _
      rw [upd_at, h.c3]
      rfl
    · simp only
      rw [e1]
      intro x hx
      rcases List.mem_append.1 hx with q | q
      · exact h.blk x q
      · obtain rfl := List.mem_singleton.1 q; exact hb
/-- The second engine's block, beside the first's. -/
theorem E2.plan {K : List KwN} {g h : EgN} {ws : List Nat} (a : E2 K g h) (e : E1 g) (hb : blkOK (bya (wdsT ws))) (hk : ∀ x ∈ (planE g ws).1.b 1, fB K x.1 = some x.2) : E2 K (planE g ws).1 (planE h ws).1 ∧ (planE h ws).2 = (planE g ws).2 := by
  cases hq : fB (g.b 2) ws with
  | some p =>
    rw [planE_found hq, planE_found (by rw [a.b2]; exact hq)]
    refine ⟨⟨a.z, a.b0, a.b1, a.b2, ?_, ?_, ?_, ?_⟩, rfl⟩
    · show upd h.c 0 (h.c 0 + 1) 0 = upd g.c 0 (g.c 0 + 1) 0
      rw [upd_at, upd_at, a.c0]
    · show upd h.c 0 (h.c 0 + 1) 1 = upd g.c 0 (g.c 0 + 1) 3
      rw [upd_ne _ _ _ _ (by decide), upd_ne _ _ _ _ (by decide), a.c1]
    · show upd h.c 0 (h.c 0 + 1) 2 = 0
      rw [upd_ne _ _ _ _ (by decide), a.c2]
    · show upd h.c 0 (h.c 0 + 1) 3 = 0
      rw [upd_ne _ _ _ _ (by decide), a.c3]
  | none =>
    rw [planE_fresh e.b0 hq] at hk ⊢
    have hq1 : fB (g.b 1) ws = none := by rw [e.b12]; exact hq
    have e1 : (layG (layG (ctE g 3) 1 ws (ownT ws)) 2 ws (ownT ws)).b 1 = g.b 1 ++ [(ws, ownT ws)] := by
      show upd (upd g.b 1 (layB (g.b 1) ws (ownT ws))) 2 (layB (upd g.b 1 (layB (g.b 1) ws (ownT ws)) 2) ws (ownT ws)) 1 = _
      rw [upd_ne _ _ _ _ (by decide), upd_at, layB_new hq1]
    have hkn : fB (h.b 0) ws = some (ownT ws) := by
      rw [a.b0]
      exact hk (ws, ownT ws) (by simp only; rw [e1]; exact List.mem_append_right _ (List.mem_singleton.2 rfl))
    rw [planE_known hkn ((accB_iff _ _).2 (own_acc hb)) (by rw [a.b2]; exact hq)]
    refine ⟨⟨a.z, ?_, ?_, ?_, ?_, ?_, ?_, ?_⟩, rfl⟩
    · show upd h.b 2 (layB (h.b 2) ws (ownT ws)) 0 = K
      rw [upd_ne _ _ _ _ (by decide)]; exact a.b0
    · show upd h.b 2 (layB (h.b 2) ws (ownT ws)) 1 = []
      rw [upd_ne _ _ _ _ (by decide)]; exact a.b1
    · show upd h.b 2 (layB (h.b 2) ws (ownT ws)) 2 = upd (upd g.b 1 (layB (g.b 1) ws (ownT ws))) 2 (layB (upd g.b 1 (layB (g.b 1) ws (ownT ws)) 2) ws (ownT ws)) 2
      rw [upd_at, upd_at, upd_ne _ _ _ _ (by decide), a.b2]
    · show upd h.c 1 (h.c 1 + 1) 0 = upd g.c 3 (g.c 3 + 1) 0
      rw [upd_ne _ _ _ _ (by decide), upd_ne _ _ _ _ (by decide), a.c0]
    · show upd h.c 1 (h.c 1 + 1) 1 = upd g.c 3 (g.c 3 + 1) 3
      rw [upd_at, upd_at, a.c1]
    · show upd h.c 1 (h.c 1 + 1) 2 = 0
      rw [upd_ne _ _ _ _ (by decide), a.c2]
    · show upd h.c 1 (h.c 1 + 1) 3 = 0
      rw [upd_ne _ _ _ _ (by decide), a.c3]
theorem E1.adv {g : EgN} (h : E1 g) (hz : RunOK g.z) (fuel : Nat) : E1 (advE g fuel).1 ∧ ∃ r, (advE g fuel).1.b 1 = g.b 1 ++ r := by
  unfold advE
  split
  · exact ⟨⟨h.b0, h.b12, h.own, h.c1, h.c2, h.c3, h.blk⟩, [], by rw [List.append_nil]⟩
  · obtain ⟨a, r, e⟩ := h.plan hz.blk
    exact ⟨⟨a.b0, a.b12, a.own, a.c1, a.c2, a.c3, a.blk⟩, r, e⟩
theorem E2.adv {K : List KwN} {g h : EgN} (a : E2 K g h) (e : E1 g) (hz : RunOK g.z) (fuel : Nat) (hk : ∀ x ∈ (advE g fuel).1.b 1, fB K x.1 = some x.2) : E2 K (advE g fuel).1 (advE h fuel).1 ∧ (advE h fuel).2 = (advE g fuel).2 := by
  unfold advE at hk ⊢
  rw [a.z]
  by_cases c : fuel < (wsZ g.z).length
  · rw [if_pos c, if_pos c]
    exact ⟨⟨rfl, a.b0, a.b1, a.b2, a.c0, a.c1, a.c2, a.c3⟩, rfl⟩
  · rw [if_neg c] at hk
    rw [if_neg c, if_neg c]
    obtain ⟨b, _⟩ := a.plan e hz.blk (ws := wsZ g.z) hk
    unfold blkE
    rw [a.z]
    exact ⟨⟨rfl, b.b0, b.b1, b.b2, b.c0, b.c1, b.c2, b.c3⟩, rfl⟩
theorem E1.runL (fuel : Nat) : ∀ (f : Nat) (g : EgN) (k n : Nat), E1 g → RunG g k → E1 (runL f g fuel n).1 ∧ ∃ r, (Go.Proofs.YtmmflekajbeamabGreatDoor.runL f g fuel n).1.b 1 = g.b 1 ++ r
  | 0, g, k, n, h, _ => ⟨h, [], by rw [List.append_nil]; rfl⟩
  | f + 1, g, k, n, h, hg => by
    rw [Go.Proofs.YtmmflekajbeamabGreatDoor.runL]
    split
    · rename_i hc
      obtain ⟨a, r, e⟩ := h.adv hg.z (fuel - n)
      obtain ⟨b, r', e'⟩ := E1.runL fuel f _ (k + 4) _ a (advE_ok hg hc.1 (fuel - n)).1
      exact ⟨b, r ++ r', by rw [e', e, List.append_assoc]⟩
    · exact ⟨h, [], by rw [List.append_nil]⟩
theorem E2.runL {K : List KwN} (fuel : Nat) : ∀ (f : Nat) (g h : EgN) (k n : Nat), E2 K g h → E1 g → RunG g k → (∀ x ∈ (Go.Proofs.YtmmflekajbeamabGreatDoor.runL f g fuel n).1.b 1, fB K x.1 = some x.2) → E2 K (Go.Proofs.YtmmflekajbeamabGreatDoor.runL f g fuel n).1 (Go.Proofs.YtmmflekajbeamabGreatDoor.runL f h fuel n).1 ∧ (Go.Proofs.YtmmflekajbeamabGreatDoor.runL f h fuel n).2 = (Go.Proofs.YtmmflekajbeamabGreatDoor.runL f g fuel n).2
  | 0, g, h, k, n, a, _, _, _ => ⟨a, rfl⟩
  | f + 1, g, h, k, n, a, e, hg, hk => by
    rw [Go.Proofs.YtmmflekajbeamabGreatDoor.runL] at hk
    rw [Go.Proofs.YtmmflekajbeamabGreatDoor.runL, Go.Proofs.YtmmflekajbeamabGreatDoor.runL, a.z]
    by_cases c : gz g.z 137 = 0 ∧ n < fuel
    · rw [if_pos c] at hk
      rw [if_pos c, if_pos c]
      obtain ⟨e', r, er⟩ := e.adv hg.z (fuel - n)
      have hg' := (advE_ok hg c.1 (fuel - n)).1
      have hk1 : ∀ x ∈ (advE g (fuel - n)).1.b 1, fB K x.1 = some x.2 := fun x hx => hk x (by
        obtain ⟨_, r2, e2⟩ := E1.runL fuel f _ (k + 4) (n + (advE g (fuel - n)).2) e' hg'
        rw [e2]
        exact List.mem_append_left _ hx)
      obtain ⟨b, en⟩ := a.adv e hg.z (fuel - n) hk1
      rw [en]
      exact E2.runL fuel f _ _ (k + 4) _ b e' hg' hk
    · rw [if_neg c, if_neg c]
      exact ⟨a, rfl⟩
end Go.Proofs.YtmmflekajbeamabGreatDoor

namespace Go.Proofs.YtmmflekajbeamabGreatDoor
open Go.RowKit Go.Maps Go.WideMaps

theorem wpQuiet_load_Z {ops : Array Oper} {C : World → Prop} {Q : Act → Prop} {a : Act} {op : Oper} {rest : List Oper} (hw : Region.wanted op (yielded ops a.tmps) = true) (ty : TypeId) (x : Operand) (ho : op.op = .load ty x)
    (b o : Nat) (hx : a.eval x = .pointer (some ⟨b, o, none⟩)) (z : List Int) (d : TypeDesc) (hS : ∀ w, C w → w.rangeAt b o (z.map (Value.int .i64)))
    (hu : Tryz.prog.underlying ty = some d) (hd : d.isRow = true) (hi : (Tryz.prog.info? ty).map (·.size) = some (z.map (Value.int .i64)).length) (h : wpQuiet Tryz.prog ops C Q rest (a.put op.dst (.agg (S z)))) : wpQuiet Tryz.prog ops C Q (op :: rest) a :=
  wpQuiet_step fun K hK => by
    rw [if_pos hw]
    refine ⟨.agg (S z), fun w hC => ?_, hK _ h⟩
    unfold Oper.quietAt Oper.quietUpon execOp
    simp only [ho, hx, Instr.loadAt, Instr.sureAddr, Sem.run_bind, Sem.run_pure, Result.andThen_ok, run_loadVar_mid w b o ty (z.map (Value.int .i64)) d (hS w hC) hu hd hi]
    exact ⟨trivial, rfl⟩
theorem range_drew {w : World} {b o : Nat} {cs : List Value} (h : w.rangeAt b o cs) : ∀ w', (∃ n, w' = w.drewN n) → w'.rangeAt b o cs := by
  rintro w' ⟨n, rfl⟩
  exact h
/-- The bench's Run of its engine. -/
theorem run_call {N B : Nat} {b : Bn} {e : En} {m k : Nat} {w : World} (h : BnAt N B b (some e) m k w) (ht : Tab w) (hk : k ≤ 99999900000) (n : Nat) (hn : n ≤ 2000) :
    Calls Tryz.prog 18 #[.pointer (some ⟨e.X, 0, none⟩), .int .i64 (n : Int)] w fun e' w' =>
      (overE e.g b.d.wk = true ∧ e' = .returned (.tuple #[.int .i64 0, .int .i64 17]) ∧ Below w.heap.size w w') ∨
      (overE e.g b.d.wk = false ∧ e' = .returned (.tuple #[.int .i64 ((runE e.g n).2 : Int), .int .i64 0]) ∧ ∃ m1 v1, EdAt e.E b.D (runE e.g n).1 b.d m1 v1 b.vs w' ∧ EdFr e.E b.D e.m e.v b.vs m1 v1 b.vs w w') := by
  have he := h.ed
  refine cRun_of e.X e.E n w (h.2.2 e rfl).x _ (fun e' w' q => by rcases q with ⟨_, q, _⟩ | ⟨_, q, _⟩ <;> exact ⟨_, _, q⟩) ?_
  by_cases ho : overE e.g b.d.wk = true
  · refine (eRun_over e.E b.D e.g b.d e.m e.v b.vs n w he ho).mono ?_
    rintro e' w1 ⟨rfl, hb⟩
    exact .inl ⟨ho, rfl, hb⟩
  · have ho' : overE e.g b.d.wk = false := by simpa using ho
    refine (eRun_ok e.E b.D e.g b.d e.m e.v b.vs n w k he ht ho' hn (h.2.2 e rfl).ok.run hk).mono ?_
    rintro e' w1 ⟨rfl, m1, v1, a, c, o⟩
    obtain ⟨a1, f⟩ := he.egs a c o
    exact .inr ⟨ho', rfl, m1, v1, a1, f⟩
end Go.Proofs.YtmmflekajbeamabGreatDoor

namespace Go.Proofs.YtmmflekajbeamabGreatDoor
open Go.RowKit Go.Maps Go.WideMaps

theorem EbAt.off {N B : Nat} {b : Bn} {e : En} {k : Nat} {w w' : World} (h : EbAt N B b e k w) (ho : ∀ x, x ≠ B → w'.heap[x]? = w.heap[x]?) (c1 : w'.cell? ⟨B, 1, none⟩ = w.cell? ⟨B, 1, none⟩) : EbAt N B b e k w' := by
  have hn : ∀ x, e.has x → w'.heap[x]? = w.heap[x]? := fun x q => ho x (fun c => h.nB (by rw [← c]; exact q))
  exact ⟨c1.trans h.c1, (World.cell?_of_block (hn _ (.inl rfl))).trans h.x, h.eg.kept (fun x q => hn x (.inr q)), h.ok, h.z, h.ge, h.nB, h.nX, h.sp⟩
theorem there_state {N B : Nat} {b : Bn} {m : Nat} {w : World} (h : BdAt N B b m w) (z : List Int) (hz : z.length = 138) : w.there B 2 (S z).size := by
  intro j hj
  rw [S_size, hz] at hj
  exact ⟨h.st.isSome j (by rw [List.length_map, h.z.len]; exact hj), h.fz _⟩
theorem S_list (z : List Int) : (S z).toList = z.map (Value.int .i64) := by unfold S; simp
set_option maxRecDepth 100000 in
set_option maxHeartbeats 8000000 in
theorem runs_ok {N B : Nat} {b : Bn} {e : En} {m k : Nat} {w : World} (h : BnAt N B b (some e) m k w) (hN : N ≤ w.heap.size) (h0 : 0 < N) (ht : Tab w) (hk : k ≤ 99999900000) (n : Nat) (hn : n ≤ 2000) (ho : overE e.g b.d.wk = false) :
    Calls Tryz.prog 13 #[.pointer (some ⟨B, 0, none⟩), .int .i64 (n : Int)] w fun e' w' => e' = .returned (.bool true) ∧ ∃ m1 v1, BnAt N B { b with z := (runE e.g n).1.z } (some { e with g := (runE e.g n).1, m := m1, v := v1 }) m (k + 8004) w' ∧ FrB B b (some e) { b with z := (runE e.g n).1.z } (some { e with g := (runE e.g n).1, m := m1, v := v1 }) w w' := by
  have hE := h.2.2 e rfl
  have c1 := hE.c1
  have HR := hide (run_call h ht hk n hn)
  have hgk : GOK (runE e.g n).1 (k + 8004) := (hE.ok.runE n).1.more (by omega)
  have HStr := hide (runE_str hE.ok.run n)
  rw [hE.z] at HStr
  have HZok : Hid (RunOK b.z) := h.1.z
  have HZ1 : Hid (RunOK (runE e.g n).1.z) := hgk.run.z
  have HEng : Hid (∀ (w' : World) (m1 v1 : Nat → Value), EdAt e.E b.D (runE e.g n).1 b.d m1 v1 b.vs w' → EdFr e.E b.D e.m e.v b.vs m1 v1 b.vs w w' → BdAt N B b m w' ∧ EbAt N B { b with z := (runE e.g n).1.z } { e with g := (runE e.g n).1, m := m1, v := v1 } (k + 8004) w' ∧ FrB B b (some e) b (some { e with g := (runE e.g n).1, m := m1, v := v1 }) w w') := fun w' m1 v1 a f => by
    obtain ⟨q1, _, q3, q4⟩ := h.eng hN a f h.1.ok h.1.wk hgk
    exact ⟨q1, q3, q4⟩
  have HT : Hid (∀ w', Below N w w' → Tab w') := fun w' hb => ht.below h0 hb
  have HO := hide ho
  have hNB := h.1.ge.1
  have HNw := hide hN; have HGe := hide h.ge
  have zz := zero34
  have hX : (({ e with g := (runE e.g n).1 } : En)).X = e.X := rfl
  clear h hE ht hk hX
  generalize hrz : (runE e.g n).1.z = Z1 at *
  generalize hrn : (runE e.g n).2 = K1 at *
  have HRz := hide hrz
  clear hrz hrn
  go_enter Tryz.func13, Tryz.ntmps13
  go_wp2_with fail
  refine (unhide HR).mono ?_
  rintro e' w1 (⟨ho', _⟩ | ⟨_, rfl, m1, v1, a1, f1⟩)
  · have := HO.out; rw [ho'] at this; cases this
  obtain ⟨hd1, he1, hfr1⟩ := HEng.out w1 m1 v1 a1 f1
  have hb1 : Below N w w1 := hfr1.below HNw.out HGe.out
  have HFr1 := hide hfr1
  clear hfr1
  have HD1 := hide hd1; have HE1 := hide he1; have HB1 := hide hb1
  have hst := hd1.st
  have hzl : b.z.length = 138 := HZok.out.len
  have hzl1 : Z1.length = 138 := HZ1.out.len
  have szl := zlen b.z hzl
  have HSt := hide (stepped_run b.z n w1 (HT.out w1 hb1) HZok.out (by omega))
  have hBl := hd1.lt
  have hz1 := hb1.size
  have HSta : Hid (∀ w', Below w1.heap.size w1 w' → Calls Tryz.prog 21 #[.pointer (some ⟨e.X, 0, none⟩)] w' fun e' w'' => e' = .returned (.agg (S Z1)) ∧ Below w'.heap.size w' w'') := fun w' hb => by
    have q := he1.up hBl hb
    have := cState_any e.X e.E b.D _ m1 v1 w' q.x q.eg
    rw [show ({ e with g := (runE e.g n).1, m := m1, v := v1 } : En).g.z = Z1 from HRz.out] at this
    exact this
  have c11 := he1.c1
  clear a1 f1 hd1 he1 hb1 HR HEng c1
  go_wp2_with (refine wpList_load_mid rfl 25 _ rfl B 2 rfl (b.z.map (Value.int .i64)) _ hst Tryz.underlying25 rfl szl ?_)
  refine (unhide HSt).mono ?_
  rintro e' w2 ⟨⟨kk, hstr, rfl⟩, hb2⟩
  obtain ⟨e1, e2⟩ := HStr.out.uniq hstr
  subst e2
  rw [← e1]
  have hz2 := hb2.size
  obtain ⟨W3, hW3⟩ : ∃ W3, W3 = w2.alloc (.cells (S Z1) 25) := ⟨_, rfl⟩
  have hB3 : Below w1.heap.size w1 W3 := by rw [hW3]; exact hb2.alloc (by omega) _
  have r3 : RowI W3 w2.heap.size 25 Z1 := by unfold RowI; rw [hW3, _root_.Go.heap_alloc_new]
  have k3 : W3.cell? ⟨B, 1, none⟩ = some (.pointer (some ⟨e.X, 0, none⟩)) := (World.cell?_of_block (hB3.block B hBl)).trans c11
  have HW3 := hide hW3; have HB3 := hide hB3; have HR3 := hide r3
  have hs3 : w2.heap.size < W3.heap.size := r3.lt
  clear hstr e1 hb2 hW3 hB3 r3 hst c11 HSt HStr
  go_upto_region 8 with (refine wpList_store_S rfl _ _ rfl w2.heap.size rfl Z1 rfl hzl1 (by rw [isRowB_alloc_at _ _ _ _ _ rfl]; simp [S_size, zeroZ]) _ (setRow_alloc_at _ _ _ _ _ rfl) ?_)
  rw [← HW3.out]
  go_wp2_with fail
  refine (unhide HSta _ HB3.out).mono ?_
  rintro e' w4 ⟨rfl, hb4⟩
  have hz4 := hb4.size
  obtain ⟨W5, hW5⟩ : ∃ W5, W5 = w4.alloc (.cells (S Z1) 25) := ⟨_, rfl⟩
  have hB5 : Below w1.heap.size w1 W5 := by rw [hW5]; exact (HB3.out.trans (hb4.mono HB3.out.size)).alloc (by omega) _
  have r5 : RowI W5 w4.heap.size 25 Z1 := by unfold RowI; rw [hW5, _root_.Go.heap_alloc_new]
  have r35 : RowI W5 w2.heap.size 25 Z1 := by rw [hW5]; exact (HR3.out.keep (hb4.block _ hs3)).keep (Below.heap_alloc w4 _ _ (by omega))
  have HW5 := hide hW5; have HB5 := hide hB5
  have hd5 := HD1.out.up (by omega) hB5
  obtain ⟨hd6, ho6, hc6, hs6⟩ := hd5.setZ Z1 HZ1.out
  have he6 : EbAt N B { b with z := Z1 } { e with g := (runE e.g n).1, m := m1, v := v1 } (k + 8004) (W5.setCells B 2 (Z1.map (Value.int .i64))) := (HE1.out.up hBl hB5).off ho6 (hc6 1 (by decide))
  have HFin : Hid (BnAt N B { b with z := Z1 } (some { e with g := (runE e.g n).1, m := m1, v := v1 }) m (k + 8004) (W5.setCells B 2 (Z1.map (Value.int .i64))) ∧ FrB B b (some e) { b with z := Z1 } (some { e with g := (runE e.g n).1, m := m1, v := v1 }) w (W5.setCells B 2 (Z1.map (Value.int .i64)))) :=
    ⟨⟨hd6, fun q => (by cases q), fun e' q => by cases q; exact he6⟩, (HFr1.out.up hB5).at (chg_setCells B _ 2 W5) (fun _ q => .inl q)⟩
  have th5 := there_state hd5 Z1 hzl1
  have nB1 : w2.heap.size ≠ B := by omega
  have nB2 : w4.heap.size ≠ B := by have := hb4.size; omega
  have r56 : (W5.setCells B 2 (Z1.map (Value.int .i64))).rangeAt w4.heap.size 0 (Z1.map (Value.int .i64)) := fun j u q => (World.cell?_of_block (ho6 _ nB2)).trans (by
    have g := range_row r5 0 138 (by omega)
    rw [List.drop_zero, List.take_of_length_le (by omega)] at g
    exact g j u q)
  have r36 : (W5.setCells B 2 (Z1.map (Value.int .i64))).rangeAt w2.heap.size 0 (Z1.map (Value.int .i64)) := fun j u q => (World.cell?_of_block (ho6 _ nB1)).trans (by
    have g := range_row r35 0 138 (by omega)
    rw [List.drop_zero, List.take_of_length_le (by omega)] at g
    exact g j u q)
  have rI5 := r35.isRow 138 hzl1
  have rD5 := r35.rowD
  have szl1 := zlen Z1 hzl1
  have eqs := eqS Z1 hzl1
  have hone := S_one Z1
  have HLi := hide (S_list Z1)
  obtain ⟨W6, hW6⟩ : ∃ W6, W6 = W5.setCells B 2 (Z1.map (Value.int .i64)) := ⟨_, rfl⟩
  have HW6 : Hid (W5.setCells B 2 (S Z1).toList = W6) := by unfold Hid; rw [S_list, hW6]
  rw [← hW6] at r56 r36 HFin
  have hs28 : (Tryz.prog.info? 25).map (·.size) = some (S Z1).size := by rw [size34, S_size, hzl1]
  clear hd5 hd6 ho6 hc6 hs6 he6 hW6 hb4 hW5 hB5 r5 r35 k3 HSta HD1 HE1
  go_upto_region 9 with (refine wpList_store_S rfl _ _ rfl w4.heap.size rfl Z1 rfl hzl1 (by rw [isRowB_alloc_at _ _ _ _ _ rfl]; simp [S_size, zeroZ]) _ (setRow_alloc_at _ _ _ _ _ rfl) ?_)
  rw [← HW5.out]
  go_upto_region 10 with (first
    | (refine wpList_load_S rfl _ rfl w2.heap.size rfl rI5 _ rD5 ?_)
    | (refine wpList_store_mid rfl 25 _ _ rfl B 2 (S Z1) rfl rfl th5 hs28 hone ?_))
  rw [HW6.out]
  go_wp2_with (first
    | (refine wpList_load_midZ rfl 25 _ rfl w4.heap.size 0 rfl Z1 _ r56 Tryz.underlying25 rfl szl1 ?_)
    | (refine wpList_load_midZ rfl 25 _ rfl w2.heap.size 0 rfl Z1 _ r36 Tryz.underlying25 rfl szl1 ?_))
  go_ret
  exact ⟨rfl, m1, v1, HFin.out⟩
end Go.Proofs.YtmmflekajbeamabGreatDoor
