/-
  Plans, as plain mathematics: slots that are told by numbers in a table of expressions, against slots that are texts.
  Translates, as plain mathematics: a block's own plan: puts with what is known laid in, and without those that nobody needs; the words of the block at a place.
  Frames, as plain mathematics: the check sum, bit by bit, in two ways; a frame's text; the first frame of a text; what the frames of an area tell.
  The small functions of the machine and of the document's own answer: what each call gives, said of numbers (no memory but new blocks).
-/
import Derived.Test.YtmmflekajbeamaaDoorR01
import Derived.Test.YtmmflekajbeamaaDoorRows
import Derived.Deep.Light
namespace Go.Proofs.YtmmflekajbeamaaDoor

structure Slots (T : List Ex) (ds : List (List UInt8)) (ns : List Nat) (l : List (List UInt8)) : Prop where
  n16 : ns.length = 16
  l16 : l.length = 16
  tell : ∀ i, i < 16 → Tells T ds (ns.getD i 0) (l.getD i [])
theorem getD_set {α : Type} (l : List α) (i j : Nat) (x z : α) (hi : i < l.length) : (l.set i x).getD j z = if j = i then x else l.getD j z := by
  rw [List.getD_eq_getElem?_getD, List.getElem?_set, List.getD_eq_getElem?_getD]
  by_cases h : i = j
  · subst h
    rw [if_pos rfl, if_pos rfl, if_pos hi]
    rfl
  · rw [if_neg h, if_neg (fun e => h e.symm)]
theorem Slots.more {T : List Ex} {ds : List (List UInt8)} {T' : List Ex} {ds' : List (List UInt8)} {ns : List Nat} {l : List (List UInt8)} (h : Slots T ds ns l) (hl : ds.length = T.length) (k : More T ds T' ds') : Slots T' ds' ns l :=
  ⟨h.n16, h.l16, fun i hi => (h.tell i hi).more hl k⟩
theorem Slots.set {T : List Ex} {ds : List (List UInt8)} {ns : List Nat} {l : List (List UInt8)} (h : Slots T ds ns l) {d n : Nat} {x : List UInt8} (hd : d < 16) (ht : Tells T ds n x) : Slots T ds (ns.set d n) (l.set d x) := by
  refine ⟨by simp [h.n16], by simp [h.l16], fun i hi => ?_⟩
  rw [getD_set _ _ _ _ _ (by rw [h.n16]; exact hd), getD_set _ _ _ _ _ (by rw [h.l16]; exact hd)]
  split
  · exact ht
  · exact h.tell i hi
theorem take_eq_iff {α : Type} {l l' : List α} {n : Nat} (z : α) (h : n ≤ l.length) (h' : n ≤ l'.length) : l.take n = l'.take n ↔ ∀ i, i < n → l.getD i z = l'.getD i z := by
  constructor
  · intro he i hi
    have : (l.take n)[i]? = (l'.take n)[i]? := by rw [he]
    rw [List.getElem?_take, List.getElem?_take, if_pos hi, if_pos hi] at this
    rw [List.getD_eq_getElem?_getD, List.getD_eq_getElem?_getD, this]
  · intro he
    apply List.ext_getElem?
    intro i
    rw [List.getElem?_take, List.getElem?_take]
    by_cases hi : i < n
    · rw [if_pos hi, if_pos hi]
      have := he i hi
      rw [List.getD_eq_getElem?_getD, List.getD_eq_getElem?_getD, List.getElem?_eq_getElem (by omega), List.getElem?_eq_getElem (by omega)] at this
      rw [List.getElem?_eq_getElem (by omega), List.getElem?_eq_getElem (by omega)]
      simpa using this
    · rw [if_neg hi, if_neg hi]
theorem Slots.same {T : List Ex} {ds : List (List UInt8)} {ns ns' : List Nat} {l l' : List (List UInt8)} (hT : TI T ds) (h : Slots T ds ns l) (h' : Slots T ds ns' l') : ns.take 8 = ns'.take 8 ↔ l.take 8 = l'.take 8 := by
  rw [take_eq_iff 0 (by rw [h.n16]; decide) (by rw [h'.n16]; decide), take_eq_iff [] (by rw [h.l16]; decide) (by rw [h'.l16]; decide)]
  constructor
  · intro he i hi
    rw [← (h.tell i (by omega)).2, ← (h'.tell i (by omega)).2, he i hi]
  · intro he i hi
    exact hT.inj (h.tell i (by omega)).1 (h'.tell i (by omega)).1 (by rw [(h.tell i (by omega)).2, (h'.tell i (by omega)).2, he i hi])
theorem stS_len (l : List (List UInt8)) (p : PutN) : (stS l p).length = l.length := by simp [stS]
theorem foldS_len (ps : List PutN) : ∀ l, (ps.foldl stS l).length = l.length := by
  induction ps with
  | nil => intro l; rfl
  | cons p ps ih => intro l; rw [List.foldl_cons, ih, stS_len]
theorem comeS_len (ps : List PutN) : (comeS ps).length = 16 := by unfold comeS; rw [foldS_len]; simp [begS]
theorem foldl_take_succ {α β : Type} (f : β → α → β) (l : List α) (b : β) (k : Nat) (x : α) (hx : l[k]? = some x) : (l.take (k + 1)).foldl f b = f ((l.take k).foldl f b) x := by
  rw [List.take_add_one, hx, List.foldl_append]
  rfl
theorem XSL.fold {ps : List PutN} (h : ∀ p ∈ ps, okPut p ∧ p.k < 4294967296) : ∀ k, k ≤ ps.length → XSL (bdX k) ((ps.take k).foldl stS begS) := by
  intro k
  induction k with
  | zero => intro _; exact XSL.beg
  | succ k ih =>
    intro hk
    have hx : ps[k]? = some ps[k] := List.getElem?_eq_getElem (by omega)
    rw [foldl_take_succ _ _ _ _ _ hx]
    exact (ih (by omega)).step (bdX_le k) (h _ (List.getElem_mem _)).1 (h _ (List.getElem_mem _)).2

/-! ### what registers come to stays in the range of words -/
def WL (n : Nat) (l : List Int) : Prop := l.length = n ∧ ∀ x ∈ l, 0 ≤ x ∧ x < 4294967296
theorem WL.at {n : Nat} {l : List Int} (h : WL n l) {i : Nat} (hi : i < n) : 0 ≤ l.getD i 0 ∧ l.getD i 0 < 4294967296 := by
  rw [List.getD_eq_getElem?_getD, List.getElem?_eq_getElem (by rw [h.1]; exact hi)]
  exact h.2 _ (List.getElem_mem _)
theorem WL.vD {l mem : List Int} {p : PutN} (h : WL 16 l) (hm : WL 128 mem) (hp : okPut p) (hk : p.k < 4294967296) : 0 ≤ vD l mem p ∧ vD l mem p < 4294967296 := by
  unfold Proofs.YtmmflekajbeamaaDoor.vD
  have ha := h.at hp.2.1
  have hb := h.at hp.2.2.1
  split
  · omega
  · split
    · exact hm.at (by omega)
    · split
      · exact ha
      · exact wk_bd _ _ _ ha.1 ha.2 hb.1 hb.2
theorem WL.step {l mem : List Int} {p : PutN} (h : WL 16 l) (hm : WL 128 mem) (hp : okPut p) (hk : p.k < 4294967296) : WL 16 (stD mem l p) := by
  refine ⟨by simp [stD, h.1], fun x hx => ?_⟩
  rcases List.mem_or_eq_of_mem_set hx with hx | rfl
  · exact h.2 x hx
  · exact h.vD hm hp hk
theorem WL.beg {regs : List Int} (h : WL 8 regs) : WL 16 (begD regs) := by
  refine ⟨by simp [begD, h.1], fun x hx => ?_⟩
  unfold begD at hx
  rcases List.mem_append.1 hx with hx | hx
  · exact h.2 x hx
  · rw [List.eq_of_mem_replicate hx]; decide
theorem WL.fold {mem : List Int} {ps : List PutN} (hm : WL 128 mem) (h : ∀ p ∈ ps, okPut p ∧ p.k < 4294967296) : ∀ k l, k ≤ ps.length → WL 16 l → WL 16 ((ps.take k).foldl (stD mem) l) := by
  intro k l
  induction k with
  | zero => intro _ hl; exact hl
  | succ k ih =>
    intro hk hl
    have hx : ps[k]? = some ps[k] := List.getElem?_eq_getElem (by omega)
    rw [foldl_take_succ _ _ _ _ _ hx]
    exact (ih (by omega) hl).step hm (h _ (List.getElem_mem _)).1 (h _ (List.getElem_mem _)).2
end Go.Proofs.YtmmflekajbeamaaDoor

namespace Go.Proofs.YtmmflekajbeamaaDoor

/-! ### what is known -/
def zPut : PutN := ⟨0, 0, 0, 0, 0⟩
def arN (k : Nat) : Bool := decide (2 ≤ k ∧ k ≤ 5)
/-- A put, with a Set in its place if both that it reads are known. -/
def knP (last : List PutN) (p : PutN) : PutN :=
  if arN p.kind = true ∧ (last.getD p.a zPut).kind = 1 ∧ (last.getD p.b zPut).kind = 1 then ⟨1, p.d, 0, 0, (wk p.kind (last.getD p.a zPut).k (last.getD p.b zPut).k).toNat⟩ else p
theorem knP_d (last : List PutN) (p : PutN) : (knP last p).d = p.d := by unfold knP; split <;> rfl
def knS (st : List PutN × List PutN) (p : PutN) : List PutN × List PutN := (st.1.set p.d (knP st.1 p), st.2 ++ [knP st.1 p])
def kn0 : List PutN × List PutN := (List.replicate 8 zPut, [])
def knF (ps : List PutN) : List PutN × List PutN := ps.foldl knS kn0
def wKn (ps : List PutN) : List PutN := (knF ps).2
/-- What a put of a block's own plan is like. -/
def okB (p : PutN) : Prop := 1 ≤ p.kind ∧ p.kind ≤ 6 ∧ p.d < 8 ∧ p.a < 8 ∧ p.b < 8 ∧ p.k < 4294967296 ∧ okPut p
theorem okB.kn {last : List PutN} (hl : ∀ q ∈ last, q.k < 4294967296) {p : PutN} (h : okB p) : okB (knP last p) := by
  have hb : ∀ i, (last.getD i zPut).k < 4294967296 := fun i => by
    rw [List.getD_eq_getElem?_getD]
    cases hi : last[i]? with
    | none => decide
    | some q => exact hl q (List.mem_of_getElem? hi)
  unfold knP
  split
  · have := wk_bd p.kind (last.getD p.a zPut).k (last.getD p.b zPut).k (by omega) (by have := hb p.a; omega) (by omega) (by have := hb p.b; omega)
    have h3 := h.2.2.1
    exact ⟨Nat.le_refl _, by dsimp only; omega, h3, Nat.zero_lt_succ _, Nat.zero_lt_succ _, by dsimp only; omega, ⟨by dsimp only; omega, Nat.zero_lt_succ _, Nat.zero_lt_succ _, .inl ⟨rfl, rfl, rfl⟩⟩⟩
  · exact h
structure KnOK (st : List PutN × List PutN) (n : Nat) : Prop where
  l8 : st.1.length = 8
  len : st.2.length = n
  bd : ∀ q ∈ st.1, q.k < 4294967296
  ok : ∀ q ∈ st.2, okB q
theorem KnOK.zero : KnOK kn0 0 := ⟨rfl, rfl, fun q hq => by rw [List.eq_of_mem_replicate hq]; decide, fun q hq => by cases hq⟩
theorem KnOK.step {st : List PutN × List PutN} {n : Nat} (h : KnOK st n) {p : PutN} (hp : okB p) : KnOK (knS st p) (n + 1) := by
  have hk := hp.kn h.bd
  refine ⟨by simp [knS, h.l8], by simp [knS, h.len], fun q hq => ?_, fun q hq => ?_⟩
  · rcases List.mem_or_eq_of_mem_set hq with hq | rfl
    · exact h.bd q hq
    · exact hk.2.2.2.2.2.1
  · rcases List.mem_append.1 hq with hq | hq
    · exact h.ok q hq
    · rw [List.mem_singleton.1 hq]; exact hk
theorem KnOK.fold {ps : List PutN} (h : ∀ p ∈ ps, okB p) : ∀ k, k ≤ ps.length → KnOK ((ps.take k).foldl knS kn0) k := by
  intro k
  induction k with
  | zero => intro _; exact KnOK.zero
  | succ k ih =>
    intro hk
    have hx : ps[k]? = some ps[k] := List.getElem?_eq_getElem (by omega)
    rw [foldl_take_succ _ _ _ _ _ hx]
    exact (ih (by omega)).step (h _ (List.getElem_mem _))
theorem wKn_ok {ps : List PutN} (h : ∀ p ∈ ps, okB p) : (∀ p ∈ wKn ps, okB p) ∧ (wKn ps).length = ps.length := by
  have := KnOK.fold h ps.length (Nat.le_refl _)
  rw [List.take_length] at this
  exact ⟨this.ok, this.len⟩
theorem blkPuts_okB {s : ByteArray} (h : blkOK s) : ∀ p ∈ blkPuts s, okB p := by
  intro p hp
  obtain ⟨j, hj, rfl⟩ := List.mem_map.1 hp
  obtain ⟨h1, h2, h3, h4, h5, h6, h7⟩ := putW_ok (blk_plain h (List.mem_range.1 hj))
  exact ⟨h6, h7, h2, h3, h4, by omega, h1⟩
/-- The places behind the last puts, by which the document tells what is known, against the puts themselves. -/
structure LastR (last : List PutN) (l : List PutN) (ix : List Nat) : Prop where
  n8 : ix.length = 8
  at' : ∀ r, r < 8 → ix.getD r 0 ≤ l.length ∧ (ix.getD r 0 = 0 → last.getD r zPut = zPut) ∧ (∀ j, ix.getD r 0 = j + 1 → l[j]? = some (last.getD r zPut))
theorem LastR.zero : LastR kn0.1 kn0.2 (List.replicate 8 0) := by
  refine ⟨rfl, fun r hr => ?_⟩
  have h1 : (List.replicate 8 0).getD r 0 = 0 := by
    rw [List.getD_eq_getElem?_getD, List.getElem?_replicate, if_pos hr]; rfl
  have h2 : kn0.1.getD r zPut = zPut := by
    unfold kn0
    rw [List.getD_eq_getElem?_getD, List.getElem?_replicate, if_pos hr]; rfl
  rw [h1, h2]
  exact ⟨Nat.zero_le _, fun _ => rfl, fun j hj => by omega⟩
theorem LastR.step {st : List PutN × List PutN} {ix : List Nat} (h : LastR st.1 st.2 ix) (hl : st.1.length = 8) {p : PutN} (hp : p.d < 8) : LastR (knS st p).1 (knS st p).2 (ix.set p.d (st.2.length + 1)) := by
  refine ⟨by simp [h.n8], fun r hr => ?_⟩
  obtain ⟨h1, h2, h3⟩ := h.at' r hr
  unfold knS
  dsimp only
  rw [getD_set _ _ _ _ _ (by rw [h.n8]; exact hp), getD_set _ _ _ _ _ (by rw [hl]; exact hp)]
  by_cases hrd : r = p.d
  · rw [if_pos hrd, if_pos hrd]
    refine ⟨by simp, fun h => by omega, fun j hj => ?_⟩
    have : j = st.2.length := by omega
    subst this
    simp
  · rw [if_neg hrd, if_neg hrd]
    refine ⟨by rw [List.length_append]; omega, h2, fun j hj => ?_⟩
    have := h3 j hj
    rw [List.getElem?_append_left (List.getElem?_eq_some_iff.1 this).1]
    exact this

/-! ### what is needed -/
def rdB (p : PutN) (q : Nat) : Bool := if p.kind = 1 then false else if p.kind = 6 ∨ p.kind = 7 then decide (p.a = q) else decide (p.a = q ∨ p.b = q)
/-- Is a slot needed ahead of these puts? -/
def nd : List PutN → Nat → Bool
  | [], _ => true
  | p :: ps, q => if nd ps p.d = true then (if rdB p q = true then true else if p.d = q then false else nd ps q) else nd ps q
/-- The puts that are needed. -/
def idle : List PutN → List PutN
  | [] => []
  | p :: ps => if nd ps p.d = true then p :: idle ps else idle ps
theorem idle_mem {p : PutN} : ∀ {l : List PutN}, p ∈ idle l → p ∈ l
  | [], h => h
  | q :: l, h => by
    unfold idle at h
    split at h
    · rcases List.mem_cons.1 h with rfl | h
      · exact List.mem_cons_self
      · exact List.mem_cons_of_mem _ (idle_mem h)
    · exact List.mem_cons_of_mem _ (idle_mem h)
theorem idle_len : ∀ l : List PutN, (idle l).length ≤ l.length
  | [] => Nat.le_refl _
  | q :: l => by
    have := idle_len l
    unfold idle
    split
    · simp; omega
    · simp; omega
theorem drop_cons' {α : Type} {l : List α} {i : Nat} {x : α} (h : l[i]? = some x) : l.drop i = x :: l.drop (i + 1) := by
  obtain ⟨hi, rfl⟩ := List.getElem?_eq_some_iff.1 h
  exact List.drop_eq_getElem_cons hi
/-- Which slots are needed behind one put more, the array's way. -/
def ndA (p : PutN) (l : List Bool) : List Bool :=
  let l1 := l.set p.d false
  let l2 := if p.kind = 1 then l1 else l1.set p.a true
  if arN p.kind = true then l2.set p.b true else l2
theorem ndA_len (p : PutN) (l : List Bool) : (ndA p l).length = l.length := by
  unfold ndA; dsimp only
  split <;> split <;> simp
def ndL (ps : List PutN) : List Bool := (List.range 8).map (nd ps)
theorem ndL_get (ps : List PutN) (q : Nat) (hq : q < 8) (z : Bool) : (ndL ps).getD q z = nd ps q := by
  unfold ndL
  rw [List.getD_eq_getElem?_getD, List.getElem?_map, List.getElem?_range hq]; rfl
theorem ndL_len (ps : List PutN) : (ndL ps).length = 8 := by simp [ndL]
theorem ndL_nil : ndL [] = List.replicate 8 true := rfl
theorem ndL_skip {p : PutN} {ps : List PutN} (h : nd ps p.d = false) : ndL (p :: ps) = ndL ps := by
  unfold ndL
  apply List.map_congr_left
  intro q _
  rw [nd, h]
  rfl
theorem ndL_keep {p : PutN} {ps : List PutN} (hp : okB p) (h : nd ps p.d = true) : ndL (p :: ps) = ndA p (ndL ps) := by
  obtain ⟨k1, k6, d8, a8, b8, _, _⟩ := hp
  apply List.ext_getElem?
  intro q
  by_cases hq : q < 8
  · have hl := ndL_len ps
    have e1 : (ndL (p :: ps))[q]? = some (nd (p :: ps) q) := by
      unfold ndL
      rw [List.getElem?_map, List.getElem?_range hq]; rfl
    have e2 : (ndL ps)[q]? = some (nd ps q) := by
      unfold ndL
      rw [List.getElem?_map, List.getElem?_range hq]; rfl
    rw [e1, nd, if_pos h]
    have hc : p.kind = 1 ∨ p.kind = 6 ∨ (2 ≤ p.kind ∧ p.kind ≤ 5) := by omega
    rcases hc with h1 | h6 | hm
    · have er : rdB p q = false := by unfold rdB; rw [if_pos h1]
      have ea : ndA p (ndL ps) = (ndL ps).set p.d false := by unfold ndA arN; dsimp only; rw [if_neg (by simp; omega), if_pos h1]
      rw [er, ea, if_neg (by decide), List.getElem?_set, e2]
      by_cases hd : p.d = q
      · rw [if_pos hd, if_pos hd, if_pos (by omega)]
      · rw [if_neg hd, if_neg hd]
    · have er : rdB p q = decide (p.a = q) := by unfold rdB; rw [if_neg (by omega), if_pos (Or.inl h6)]
      have ea : ndA p (ndL ps) = ((ndL ps).set p.d false).set p.a true := by unfold ndA arN; dsimp only; rw [if_neg (by simp; omega), if_neg (by omega)]
      rw [er, ea, List.getElem?_set, List.getElem?_set, e2, List.length_set, hl]
      by_cases ha : p.a = q
      · rw [if_pos (decide_eq_true ha), if_pos ha, if_pos (by omega)]
      · rw [if_neg (by simpa using ha), if_neg ha]
        by_cases hd : p.d = q
        · rw [if_pos hd, if_pos hd, if_pos (by omega)]
        · rw [if_neg hd, if_neg hd]
    · have er : rdB p q = decide (p.a = q ∨ p.b = q) := by unfold rdB; rw [if_neg (by omega), if_neg (by omega)]
      have ea : ndA p (ndL ps) = (((ndL ps).set p.d false).set p.a true).set p.b true := by unfold ndA arN; dsimp only; rw [if_pos (decide_eq_true hm), if_neg (by omega)]
      rw [er, ea, List.getElem?_set, List.getElem?_set, List.getElem?_set, e2, List.length_set, List.length_set, hl]
      by_cases hb : p.b = q
      · rw [if_pos (decide_eq_true (Or.inr hb)), if_pos hb, if_pos (by omega)]
      · rw [if_neg hb]
        by_cases ha : p.a = q
        · rw [if_pos (decide_eq_true (Or.inl ha)), if_pos ha, if_pos (by omega)]
        · rw [if_neg (by simp; exact ⟨ha, hb⟩), if_neg ha]
          by_cases hd : p.d = q
          · rw [if_pos hd, if_pos hd, if_pos (by omega)]
          · rw [if_neg hd, if_neg hd]
  · rw [List.getElem?_eq_none (by rw [ndL_len]; omega), List.getElem?_eq_none (by rw [ndA_len, ndL_len]; omega)]

/-! ### the text of a plan -/
def putT (p : PutN) : List UInt8 := UInt8.ofNat p.kind :: UInt8.ofNat p.d :: UInt8.ofNat p.a :: UInt8.ofNat p.b :: numB 4 p.k
theorem putT_len (p : PutN) : (putT p).length = 8 := rfl
def planT (ps : List PutN) : List UInt8 := ps.flatMap putT
theorem planT_snoc (ps : List PutN) (p : PutN) : planT (ps ++ [p]) = planT ps ++ putT p := by simp [planT]
theorem planT_len (ps : List PutN) : (planT ps).length = 8 * ps.length := by
  induction ps with
  | nil => rfl
  | cons p ps ih =>
    have : planT (p :: ps) = putT p ++ planT ps := by simp [planT]
    rw [this, List.length_append, ih, putT_len, List.length_cons]; omega
/-- A block's own plan. -/
def ownP (s : ByteArray) : List PutN := idle (wKn (blkPuts s))
theorem nPl_len (s : ByteArray) : (blkPuts s).length = nPl s := by simp [blkPuts]
theorem ownP_ok {s : ByteArray} (h : blkOK s) : (∀ p ∈ ownP s, okB p) ∧ (ownP s).length ≤ nPl s := by
  obtain ⟨h1, h2⟩ := wKn_ok (blkPuts_okB h)
  refine ⟨fun p hp => h1 p (idle_mem hp), ?_⟩
  have := idle_len (wKn (blkPuts s))
  rw [h2, nPl_len] at this
  exact this

/-! ### the block at a place -/
/-- How many words the block at a place has, of at most f. -/
def blkN (mem : List Int) : Nat → Nat → Nat
  | 0, _ => 0
  | f + 1, p => if p < 128 then (if plW (mem.getD p 0) = true then blkN mem f (p + 1) + 1 else 1) else 0
def blkW (mem : List Int) (pc n : Nat) : List Nat := (List.range n).map fun j => (mem.getD (pc + j) 0).toNat
def wdsT (ws : List Nat) : List UInt8 := ws.flatMap (numB 4)
theorem blkW_succ (mem : List Int) (pc n : Nat) : blkW mem pc (n + 1) = blkW mem pc n ++ [(mem.getD (pc + n) 0).toNat] := by simp [blkW, List.range_succ]
theorem wdsT_snoc (ws : List Nat) (v : Nat) : wdsT (ws ++ [v]) = wdsT ws ++ numB 4 v := by simp [wdsT]
theorem wdsT_len (ws : List Nat) : (wdsT ws).length = 4 * ws.length := by
  induction ws with
  | nil => rfl
  | cons v ws ih =>
    have : wdsT (v :: ws) = numB 4 v ++ wdsT ws := by simp [wdsT]
    rw [this, List.length_append, ih, numB_len, List.length_cons]; omega
/-- Going on: n words have been taken, all of them plain, and there may be one more. -/
theorem blkN_go (mem : List Int) (pc : Nat) : ∀ (f n : Nat), (∀ j, j < n → plW (mem.getD (pc + j) 0) = true) → n + f = 8 → pc + n ≤ 128 → blkN mem 8 pc = n + blkN mem f (pc + n) := by
  intro f
  induction f with
  | zero =>
    intro n
    have key : ∀ (g m p : Nat), (∀ j, j < m → plW (mem.getD (p + j) 0) = true) → m = g → p + m ≤ 128 → blkN mem g p = m := by
      intro g
      induction g with
      | zero => intro m p _ hm _; rw [hm]; rfl
      | succ g ih =>
        intro m p h hm hp
        rw [blkN, if_pos (by omega), if_pos (by have := h 0 (by omega); simpa using this), ih (m - 1) (p + 1) (fun j hj => by have := h (j + 1) (by omega); rw [show p + 1 + j = p + (j + 1) by omega]; exact this) (by omega) (by omega)]
        omega
    intro h hn hp
    have hn' : n = 8 := by omega
    subst hn'
    rw [key 8 8 pc h rfl hp]
    rfl
  | succ f ih =>
    intro n h hn hp
    by_cases hlt : pc + n < 128
    · by_cases hpl : plW (mem.getD (pc + n) 0) = true
      · have := ih (n + 1) (fun j hj => by
          by_cases hjn : j = n
          · subst hjn; exact hpl
          · exact h j (by omega)) (by omega) (by omega)
        rw [this, blkN, if_pos hlt, if_pos hpl, Nat.add_assoc pc n 1]
        omega
      · have key : ∀ (m g p : Nat), (∀ j, j < m → plW (mem.getD (p + j) 0) = true) → m < g → p + m < 128 → ¬ plW (mem.getD (p + m) 0) = true → blkN mem g p = m + 1 := by
          intro m
          induction m with
          | zero =>
            intro g p _ hg hp hno
            obtain ⟨g, rfl⟩ : ∃ g', g = g' + 1 := ⟨g - 1, by omega⟩
            rw [Nat.add_zero] at hp hno
            rw [blkN, if_pos hp, if_neg hno]
          | succ m ihm =>
            intro g p hj hg hp hno
            obtain ⟨g, rfl⟩ : ∃ g', g = g' + 1 := ⟨g - 1, by omega⟩
            rw [blkN, if_pos (by omega), if_pos (by have := hj 0 (by omega); simpa using this)]
            rw [ihm g (p + 1) (fun j hj' => by have := hj (j + 1) (by omega); rw [show p + 1 + j = p + (j + 1) by omega]; exact this) (by omega) (by omega) (by rw [show p + 1 + m = p + (m + 1) by omega]; exact hno)]
        rw [key n 8 pc h (by omega) hlt hpl, blkN, if_pos hlt, if_neg hpl]
    · have key : ∀ (m g p : Nat), (∀ j, j < m → plW (mem.getD (p + j) 0) = true) → m ≤ g → p + m = 128 → blkN mem g p = m := by
        intro m
        induction m with
        | zero =>
          intro g p _ _ hp
          cases g with
          | zero => rfl
          | succ g => rw [blkN, if_neg (by omega)]
        | succ m ihm =>
          intro g p hj hg hp
          obtain ⟨g, rfl⟩ : ∃ g', g = g' + 1 := ⟨g - 1, by omega⟩
          rw [blkN, if_pos (by omega), if_pos (by have := hj 0 (by omega); simpa using this)]
          rw [ihm g (p + 1) (fun j hj' => by have := hj (j + 1) (by omega); rw [show p + 1 + j = p + (j + 1) by omega]; exact this) (by omega) (by omega)]
      rw [key n 8 pc h (by omega) (by omega), blkN, if_neg hlt]
      omega
def blkTxt (mem : List Int) (pc : Nat) : List UInt8 := wdsT (blkW mem pc (blkN mem 8 pc))
end Go.Proofs.YtmmflekajbeamaaDoor

namespace Go.Proofs.YtmmflekajbeamaaDoor

/-! ### the check sum -/
def crcP : Nat := 3988292384
def cb (x : Nat) : Nat := if x % 2 = 1 then x / 2 ^^^ crcP else x / 2
/-- A bit of a byte, the document's way. -/
def rb (x b : Nat) : Nat := if x % 2 ≠ b % 2 then x / 2 ^^^ crcP else x / 2
theorem xor_half (x y : Nat) : (x ^^^ y) / 2 = x / 2 ^^^ y / 2 := by
  have := @Nat.shiftRight_xor_distrib 1 x y
  simpa [Nat.shiftRight_eq_div_pow] using this
theorem xor_odd (x y : Nat) : (x ^^^ y) % 2 = 1 ↔ x % 2 ≠ y % 2 := by
  rw [Nat.xor_mod_two_eq_one]; omega
theorem cb_rb (x b : Nat) : cb (x ^^^ b) = rb x b ^^^ b / 2 := by
  unfold cb rb
  rw [xor_half]
  by_cases h : x % 2 ≠ b % 2
  · rw [if_pos ((xor_odd x b).2 h), if_pos h, Nat.xor_assoc, Nat.xor_assoc, Nat.xor_comm (b / 2) crcP]
  · rw [if_neg (fun e => h ((xor_odd x b).1 e)), if_neg h]
def cbN : Nat → Nat → Nat
  | 0, x => x
  | k + 1, x => cb (cbN k x)
def rbN (b : Nat) : Nat → Nat → Nat
  | 0, x => x
  | k + 1, x => rb (rbN b k x) (b / 2 ^ k)
theorem cbN_rbN (x b : Nat) : ∀ k, cbN k (x ^^^ b) = rbN b k x ^^^ b / 2 ^ k := by
  intro k
  induction k with
  | zero => simp [cbN, rbN]
  | succ k ih => rw [cbN, ih, cb_rb, rbN, Nat.pow_succ, Nat.div_div_eq_div_mul]
theorem cb_lt {x : Nat} (h : x < 4294967296) : cb x < 4294967296 := by
  unfold cb
  split
  · exact Nat.xor_lt_two_pow (n := 32) (by omega) (by decide)
  · omega
theorem rb_lt {x : Nat} (b : Nat) (h : x < 4294967296) : rb x b < 4294967296 := by
  unfold rb
  split
  · exact Nat.xor_lt_two_pow (n := 32) (by omega) (by decide)
  · omega
theorem cbN_lt {x : Nat} (h : x < 4294967296) : ∀ k, cbN k x < 4294967296
  | 0 => h
  | k + 1 => cb_lt (cbN_lt h k)
theorem rbN_lt {x : Nat} (b : Nat) (h : x < 4294967296) : ∀ k, rbN b k x < 4294967296
  | 0 => h
  | k + 1 => rb_lt _ (rbN_lt b h k)
/-- A byte more. -/
def crcB (x : Nat) (b : UInt8) : Nat := rbN b.toNat 8 x
theorem crcB_cb (x : Nat) (b : UInt8) : cbN 8 (x ^^^ b.toNat) = crcB x b := by
  rw [cbN_rbN, crcB, Nat.div_eq_of_lt (by have := b.toNat_lt; omega), Nat.xor_zero]
theorem crcB_lt {x : Nat} (b : UInt8) (h : x < 4294967296) : crcB x b < 4294967296 := rbN_lt _ h 8
def crcG (l : List UInt8) : Nat := l.foldl crcB 4294967295
theorem crcF_lt (l : List UInt8) : ∀ x, x < 4294967296 → l.foldl crcB x < 4294967296 := by
  induction l with
  | nil => intro x h; exact h
  | cons b l ih => intro x h; exact ih _ (crcB_lt b h)
theorem crcG_lt (l : List UInt8) : crcG l < 4294967296 := crcF_lt l _ (by decide)
def crc (l : List UInt8) : Nat := 4294967295 - crcG l
theorem crc_lt (l : List UInt8) : crc l < 4294967296 := by unfold crc; omega

/-! ### frames -/
def frH (kind : Nat) (pl : List UInt8) : List UInt8 := 99 :: (numB 1 kind ++ (numB 2 pl.length ++ pl))
def frT (kind : Nat) (pl : List UInt8) : List UInt8 := frH kind pl ++ numB 4 (crc (frH kind pl))
theorem frH_len (kind : Nat) (pl : List UInt8) : (frH kind pl).length = pl.length + 4 := by simp [frH, numB_len]; omega
theorem frT_len (kind : Nat) (pl : List UInt8) : (frT kind pl).length = pl.length + 8 := by simp [frT, frH_len, numB_len]
end Go.Proofs.YtmmflekajbeamaaDoor

namespace Go.Proofs.YtmmflekajbeamaaDoor
open Go.RowKit

theorem ret_int {k : IntKind} {a b : Int} (h : a = b) : Ending.returned (.int k a) = .returned (.int k b) := by rw [h]
theorem ret_bool {a b : Bool} (h : a = b) : Ending.returned (.bool a) = .returned (.bool b) := by rw [h]

set_option maxHeartbeats 400000 in
theorem num_any (e : Int) (w : World) :
    Calls Tryd.prog 40 #[.int .i64 e] w fun e' w' => e' = .returned (.int .i64 e) ∧ w' = w := by
  go_enter Tryd.func40, Tryd.ntmps40
  go_wp2
  go_ret
  exact ⟨rfl, rfl⟩

set_option maxHeartbeats 400000 in
theorem address_any (a k : Int) (w : World) (ha : 0 ≤ a) (ha2 : a < 4294967296) (hk : 0 ≤ k) (hk2 : k < 4096) :
    Calls Tryd.prog 153 #[.int .i64 a, .int .i64 k] w fun e' w' => e' = .returned (.int .i64 ((a + k) % 128)) ∧ w' = w := by
  go_enter Tryd.func153, Tryd.ntmps153
  go_wp2
  go_ret
  exact ⟨rfl, rfl⟩

set_option maxHeartbeats 400000 in
theorem split_any (v : Int) (w : World) (h0 : 0 ≤ v) (h1 : v < 4294967296) :
    Calls Tryd.prog 119 #[.int .i64 v] w fun e' w' => e' = .returned (.agg #[.int .i64 (fop v), .int .i64 (fa v), .int .i64 (fb v), .int .i64 (fc v), .int .i64 (fk v)]) ∧ Below w.heap.size w w' := by
  have e1 : bits .and .i64 (v / 16777216) 255 = fop v := and255 _ (by omega) (by omega)
  have e2 : bits .and .i64 (v / 1048576) 15 = fa v := and15 _ (by omega) (by omega)
  have e3 : bits .and .i64 (v / 65536) 15 = fb v := and15 _ (by omega) (by omega)
  have e4 : bits .and .i64 (v / 4096) 15 = fc v := and15 _ (by omega) (by omega)
  have e5 : bits .and .i64 v 4095 = fk v := and4095 _ (by omega) (by omega)
  go_enter Tryd.func119, Tryd.ntmps119
  go_wp2
  exact bodyPost_ret (v := .agg #[.int .i64 (fop v), .int .i64 (fa v), .int .i64 (fb v), .int .i64 (fc v), .int .i64 (fk v)]) (by simp [results, Tryd.results119, go_sem]) rfl ⟨rfl, (Below.refl _ _).alloc (Nat.le_refl _) _⟩

set_option maxHeartbeats 400000 in
theorem isWord_any (v : Int) (w : World) :
    Calls Tryd.prog 131 #[.int .i64 v] w fun e' w' => e' = .returned (.bool (isW v)) ∧ w' = w := by
  by_cases h : 0 ≤ v
  · go_enter Tryd.func131, Tryd.ntmps131
    go_wp2
    all_goals
      go_ret
      refine ⟨ret_bool ?_, rfl⟩
      simp [isW, h]
      omega
  · have hd : decide (0 ≤ v) = false := by simpa using h
    go_enter Tryd.func131, Tryd.ntmps131
    go_wp2
    all_goals
      go_ret
      refine ⟨ret_bool ?_, rfl⟩
      simp [isW]
      omega

set_option maxHeartbeats 400000 in
theorem works_any (op x y : Int) (w : World) (hx0 : 0 ≤ x) (hx1 : x < 4294967296) (hy0 : 0 ≤ y) (hy1 : y < 4294967296) (h2 : 2 ≤ op) (h5 : op ≤ 5) :
    Calls Tryd.prog 84 #[.int .i64 op, .int .i64 x, .int .i64 y] w fun e' w' => e' = .returned (.int .i64 (wk op x y)) ∧ w' = w := by
  obtain ⟨b1, b2, b3, b4⟩ := half_bd x y hx0 hx1 hy0 hy1
  have ex := xor_i64 x y hx0 hx1 hy0 hy1
  have hop : op = 2 ∨ op = 3 ∨ op = 4 ∨ op = 5 := by omega
  clear h2 h5
  rcases hop with rfl | rfl | rfl | rfl
  all_goals
    go_enter Tryd.func84, Tryd.ntmps84
    go_wp2
    go_ret
    refine ⟨ret_int ?_, rfl⟩
    first | rfl | (simp only [wk]; exact mul_halves x y)

set_option maxHeartbeats 400000 in
theorem reckon_any (op x y : Int) (w : World) (hx0 : 0 ≤ x) (hx1 : x < 4294967296) (hy0 : 0 ≤ y) (hy1 : y < 4294967296) (h2 : 2 ≤ op) (h5 : op ≤ 5) :
    Calls Tryd.prog 138 #[.int .i64 op, .int .i64 x, .int .i64 y] w fun e' w' => e' = .returned (.int .i64 (wk op x y)) ∧ w' = w := by
  have ex := xor_u32 x y hx0 hx1 hy0 hy1
  obtain ⟨bx, by'⟩ := xorZ_bd x y hx0 hx1 hy0 hy1
  have hop : op = 2 ∨ op = 3 ∨ op = 4 ∨ op = 5 := by omega
  clear h2 h5
  rcases hop with rfl | rfl | rfl | rfl
  all_goals
    go_enter Tryd.func138, Tryd.ntmps138
    go_wp2
    go_ret
    refine ⟨ret_int ?_, rfl⟩
    clear ex
    first | rfl | (show (x - y) % 4294967296 = (x + 4294967296 - y) % 4294967296; omega)

set_option maxHeartbeats 400000 in
theorem field_any (v : Int) (p n : Nat) (w : World) (h0 : 0 ≤ v) (h1 : v < 4294967296) (hp : p ≤ 24) (hn : n ≤ 12) :
    Calls Tryd.prog 122 #[.int .i64 v, .int .i64 p, .int .i64 n] w fun e' w' => e' = .returned (.int .i64 (shr v p % pw n)) ∧ w' = w := by
  go_enter Tryd.func122, Tryd.ntmps122
  go_wp2
  go_loop [0, 7] (fun t i => ∃ j : Nat, j ≤ p ∧ i = .int .i64 j ∧ t = .int .i64 (shr v j)) (fun _ i => p - (intOf i).toNat)
  case atStart => exact ⟨0, Nat.zero_le _, rfl, by rw [shr_zero]⟩
  case round =>
    obtain ⟨j, hj, rfl, rfl⟩ := hrel
    have hb := shr_bd v j h0 h1
    obtain ⟨hb0, hb1⟩ := hb
    have HS : Hid (shr v (j + 1) = shr v j / 2) := shr_succ v j
    by_cases hlt : j < p
    · go_wp2
      go_round
      case rel => exact ⟨j + 1, by omega, by go_num, by rw [HS.out]⟩
      case measure => simp [intOf]; omega
    · have hjp : j = p := by omega
      subst hjp
      clear HS hlt
      go_wp2
      go_loop [8, 9] (fun t i => ∃ j : Nat, j ≤ n ∧ i = .int .i64 j ∧ t = .int .i64 (pw j)) (fun _ i => n - (intOf i).toNat)
      case atStart => exact ⟨0, Nat.zero_le _, rfl, rfl⟩
      case round =>
        obtain ⟨q, hq, rfl, rfl⟩ := hrel
        obtain ⟨hc0, hc1⟩ := pw_bd q (by omega)
        have HT : Hid (pw (q + 1) = pw q * 2) := pw_succ q
        by_cases hlt : q < n
        · go_wp2
          go_round
          case rel => exact ⟨q + 1, by omega, by go_num, by rw [HT.out]⟩
          case measure => simp [intOf]; omega
        · have hqn : q = n := by omega
          subst hqn
          have hne : (pw q == 0) = false := by simp; omega
          go_wp2
          go_ret
          exact ⟨rfl, rfl⟩

set_option maxHeartbeats 400000 in
theorem op_any (v : Int) (w : World) (h0 : 0 ≤ v) (h1 : v < 4294967296) :
    Calls Tryd.prog 79 #[.int .i64 v] w fun e' w' => e' = .returned (.int .i64 (fop v)) ∧ w' = w := by
  go_enter Tryd.func79, Tryd.ntmps79
  go_wp2_with (go_at_call 122; refine (field_any v 24 8 _ h0 h1 (by decide) (by decide)).mono ?_; rintro e w' ⟨rfl, rfl⟩)
  go_ret
  exact ⟨rfl, rfl⟩
theorem a_any (v : Int) (w : World) (h0 : 0 ≤ v) (h1 : v < 4294967296) :
    Calls Tryd.prog 80 #[.int .i64 v] w fun e' w' => e' = .returned (.int .i64 (fa v)) ∧ w' = w := by
  go_enter Tryd.func80, Tryd.ntmps80
  go_wp2_with (go_at_call 122; refine (field_any v 20 4 _ h0 h1 (by decide) (by decide)).mono ?_; rintro e w' ⟨rfl, rfl⟩)
  go_ret
  exact ⟨rfl, rfl⟩
theorem b_any (v : Int) (w : World) (h0 : 0 ≤ v) (h1 : v < 4294967296) :
    Calls Tryd.prog 81 #[.int .i64 v] w fun e' w' => e' = .returned (.int .i64 (fb v)) ∧ w' = w := by
  go_enter Tryd.func81, Tryd.ntmps81
  go_wp2_with (go_at_call 122; refine (field_any v 16 4 _ h0 h1 (by decide) (by decide)).mono ?_; rintro e w' ⟨rfl, rfl⟩)
  go_ret
  exact ⟨rfl, rfl⟩
theorem c_any (v : Int) (w : World) (h0 : 0 ≤ v) (h1 : v < 4294967296) :
    Calls Tryd.prog 83 #[.int .i64 v] w fun e' w' => e' = .returned (.int .i64 (fc v)) ∧ w' = w := by
  go_enter Tryd.func83, Tryd.ntmps83
  go_wp2_with (go_at_call 122; refine (field_any v 12 4 _ h0 h1 (by decide) (by decide)).mono ?_; rintro e w' ⟨rfl, rfl⟩)
  go_ret
  exact ⟨rfl, rfl⟩
theorem k_any (v : Int) (w : World) (h0 : 0 ≤ v) (h1 : v < 4294967296) :
    Calls Tryd.prog 82 #[.int .i64 v] w fun e' w' => e' = .returned (.int .i64 (fk v)) ∧ w' = w := by
  have HK : Hid (fk v = shr v 0 % pw 12) := by rw [shr_zero]; rfl
  go_enter Tryd.func82, Tryd.ntmps82
  go_wp2_with (go_at_call 122; refine (field_any v 0 12 _ h0 h1 (by decide) (by decide)).mono ?_; rintro e w' ⟨rfl, rfl⟩)
  go_ret
  exact ⟨ret_int HK.out.symm, rfl⟩

set_option maxHeartbeats 1000000 in
theorem plain_any (v : Int) (w : World) (h0 : 0 ≤ v) (h1 : v < 4294967296) :
    Calls Tryd.prog 92 #[.int .i64 v] w fun e' w' => e' = .returned (.bool (plB (fop v) (fa v) (fb v) (fc v))) ∧ w' = w := by
  have ho := op_any v w h0 h1
  have ha := a_any v w h0 h1
  have hb := b_any v w h0 h1
  have hc := c_any v w h0 h1
  obtain ⟨o0, o1⟩ := fop_bd v
  obtain ⟨a0, a1⟩ := fa_bd v
  obtain ⟨b0, b1⟩ := fb_bd v
  obtain ⟨c0, c1⟩ := fc_bd v
  generalize fop v = op at *
  generalize fa v = a at *
  generalize fb v = b at *
  generalize fc v = c at *
  have H1 := hide ho; have H2 := hide ha; have H3 := hide hb; have H4 := hide hc
  clear ho ha hb hc
  go_enter Tryd.func92, Tryd.ntmps92
  go_wp2_with (first | (go_at_call 79; refine (unhide H1).mono ?_; rintro e w' ⟨rfl, rfl⟩) | (go_at_call 80; refine (unhide H2).mono ?_; rintro e w' ⟨rfl, rfl⟩) | (go_at_call 81; refine (unhide H3).mono ?_; rintro e w' ⟨rfl, rfl⟩) | (go_at_call 83; refine (unhide H4).mono ?_; rintro e w' ⟨rfl, rfl⟩))
  all_goals
    go_ret
    refine ⟨ret_bool ?_, rfl⟩
    go_light
    try simp only [beq_iff_eq, beq_eq_false_iff_ne, ne_eq] at *
    clear H1 H2 H3 H4
    unfold plB
    first | (rw [if_pos (by omega)]) | (rw [if_neg (by omega), if_pos (by omega)]) | (rw [if_neg (by omega), if_neg (by omega), if_pos (by omega)]) | (rw [if_neg (by omega), if_neg (by omega), if_neg (by omega)])
    try (first | (symm; rw [decide_eq_true_eq]; omega) | (symm; rw [decide_eq_false_iff_not]; omega) | (rw [decide_eq_decide]; omega))

set_option maxHeartbeats 1000000 in
theorem known_any (v : Int) (w : World) (h0 : 0 ≤ v) (h1 : v < 4294967296) :
    Calls Tryd.prog 78 #[.int .i64 v] w fun e' w' => e' = .returned (.bool (knB (fop v) (fa v) (fb v) (fc v))) ∧ w' = w := by
  have hp := plain_any v w h0 h1
  have ho := op_any v w h0 h1
  have ha := a_any v w h0 h1
  have hb := b_any v w h0 h1
  obtain ⟨o0, o1⟩ := fop_bd v
  obtain ⟨a0, a1⟩ := fa_bd v
  obtain ⟨b0, b1⟩ := fb_bd v
  obtain ⟨c0, c1⟩ := fc_bd v
  generalize fop v = op at *
  generalize fa v = a at *
  generalize fb v = b at *
  generalize fc v = c at *
  have H1 := hide ho; have H2 := hide ha; have H3 := hide hb; have H4 := hide hp
  clear ho ha hb hp
  go_enter Tryd.func78, Tryd.ntmps78
  go_wp2_with (first | (go_at_call 92; refine (unhide H4).mono ?_; rintro e w' ⟨rfl, rfl⟩) | (go_at_call 79; refine (unhide H1).mono ?_; rintro e w' ⟨rfl, rfl⟩) | (go_at_call 80; refine (unhide H2).mono ?_; rintro e w' ⟨rfl, rfl⟩) | (go_at_call 81; refine (unhide H3).mono ?_; rintro e w' ⟨rfl, rfl⟩))
  all_goals
    go_ret
    refine ⟨ret_bool ?_, rfl⟩
    go_light
    try simp only [beq_iff_eq, beq_eq_false_iff_ne, ne_eq] at *
    clear H1 H2 H3 H4
    first | (exact kn_pl op a b c (by omega) (by omega) (by omega) (by omega) (by omega)) | unfold knB
    all_goals first | (rw [if_pos (by omega)]) | (rw [if_neg (by omega), if_pos (by omega)]) | (rw [if_neg (by omega), if_neg (by omega), if_pos (by omega)]) | (rw [if_neg (by omega), if_neg (by omega), if_neg (by omega), if_pos (by omega)])
    all_goals try (first | (symm; rw [decide_eq_true_eq]; omega) | (symm; rw [decide_eq_false_iff_not]; omega) | (rw [decide_eq_decide]; omega))
end Go.Proofs.YtmmflekajbeamaaDoor
