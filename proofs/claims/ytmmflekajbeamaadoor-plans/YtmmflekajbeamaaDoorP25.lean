/-
  Translates, as plain mathematics: a block's own plan: puts with what is known laid in, and without those that nobody needs; the words of the block at a place.
  Plans: two rows of numbers held against each other; Accept.
-/
import Derived.Test.YtmmflekajbeamaaDoorP15
import Derived.Test.YtmmflekajbeamaaDoorP24
import Derived.ChangeKeysEq
namespace Go.Proofs.YtmmflekajbeamaaDoor

/-! ### what is known -/
def zPut : PutN := ⟨0, 0, 0, 0, 0⟩
def arN (k : Nat) : Bool := decide (2 ≤ k ∧ k ≤ 5)
/-- A put, with a Set in its place if both that it reads are known. -/
def knP (last : List PutN) (p : PutN) : PutN :=
  if arN p.kind = true ∧ (last.getD p.a zPut).kind = 1 ∧ (last.getD p.b zPut).kind = 1 then ⟨1, p.d, 0, 0, (wk p.kind (last.getD p.a zPut).k (last.getD p.b zPut).k).toNat⟩ else p
theorem knP_d (last : List PutN) (p : PutN) : (knP last p).d = p.d := by unfold knP; split <;> rfl
def knS (st : List PutN × List PutN) (p : PutN) : List PutN × List PutN := (st.1.set p.d (knP st.1 p), st.2 ++ [knP st.1 p])
def kn0 : List PutN × List PutN := (List.replicate 8 zPut, [])
def knF (ps : List PutN) : List PutN × List PutN := ps.foldl knS kn0
def wKn (ps : List PutN) : List PutN := (knF ps).2
/-- What a put of a block's own plan is like. -/
def okB (p : PutN) : Prop := 1 ≤ p.kind ∧ p.kind ≤ 6 ∧ p.d < 8 ∧ p.a < 8 ∧ p.b < 8 ∧ p.k < 4294967296 ∧ okPut p
theorem okB.kn {last : List PutN} (hl : ∀ q ∈ last, q.k < 4294967296) {p : PutN} (h : okB p) : okB (knP last p) := by
  have hb : ∀ i, (last.getD i zPut).k < 4294967296 := fun i => by
    rw [List.getD_eq_getElem?_getD]
    cases hi : last[i]? with
    | none => decide
    | some q => exact hl q (List.mem_of_getElem? hi)
  unfold knP
  split
  · have := wk_bd p.kind (last.getD p.a zPut).k (last.getD p.b zPut).k (by omega) (by have := hb p.a; omega) (by omega) (by have := hb p.b; omega)
    have h3 := h.2.2.1
    exact ⟨Nat.le_refl _, by dsimp only; omega, h3, Nat.zero_lt_succ _, Nat.zero_lt_succ _, by dsimp only; omega, ⟨by dsimp only; omega, Nat.zero_lt_succ _, Nat.zero_lt_succ _, .inl ⟨rfl, rfl, rfl⟩⟩⟩
  · exact h
structure KnOK (st : List PutN × List PutN) (n : Nat) : Prop where
  l8 : st.1.length = 8
  len : st.2.length = n
  bd : ∀ q ∈ st.1, q.k < 4294967296
  ok : ∀ q ∈ st.2, okB q
theorem KnOK.zero : KnOK kn0 0 := ⟨rfl, rfl, fun q hq => by rw [List.eq_of_mem_replicate hq]; decide, fun q hq => by cases hq⟩
theorem KnOK.step {st : List PutN × List PutN} {n : Nat} (h : KnOK st n) {p : PutN} (hp : okB p) : KnOK (knS st p) (n + 1) := by
  have hk := hp.kn h.bd
  refine ⟨by simp [knS, h.l8], by simp [knS, h.len], fun q hq => ?_, fun q hq => ?_⟩
  · rcases List.mem_or_eq_of_mem_set hq with hq | rfl
    · exact h.bd q hq
    · exact hk.2.2.2.2.2.1
  · rcases List.mem_append.1 hq with hq | hq
    · exact h.ok q hq
    · rw [List.mem_singleton.1 hq]; exact hk
theorem KnOK.fold {ps : List PutN} (h : ∀ p ∈ ps, okB p) : ∀ k, k ≤ ps.length → KnOK ((ps.take k).foldl knS kn0) k := by
  intro k
  induction k with
  | zero => intro _; exact KnOK.zero
  | succ k ih =>
    intro hk
    have hx : ps[k]? = some ps[k] := List.getElem?_eq_getElem (by omega)
    rw [foldl_take_succ _ _ _ _ _ hx]
    exact (ih (by omega)).step (h _ (List.getElem_mem _))
theorem wKn_ok {ps : List PutN} (h : ∀ p ∈ ps, okB p) : (∀ p ∈ wKn ps, okB p) ∧ (wKn ps).length = ps.length := by
  have := KnOK.fold h ps.length (Nat.le_refl _)
  rw [List.take_length] at this
  exact ⟨this.ok, this.len⟩
theorem blkPuts_okB {s : ByteArray} (h : blkOK s) : ∀ p ∈ blkPuts s, okB p := by
  intro p hp
  obtain ⟨j, hj, rfl⟩ := List.mem_map.1 hp
  obtain ⟨h1, h2, h3, h4, h5, h6, h7⟩ := putW_ok (blk_plain h (List.mem_range.1 hj))
  exact ⟨h6, h7, h2, h3, h4, by omega, h1⟩
/-- The places behind the last puts, by which the document tells what is known, against the puts themselves. -/
structure LastR (last : List PutN) (l : List PutN) (ix : List Nat) : Prop where
  n8 : ix.length = 8
  at' : ∀ r, r < 8 → ix.getD r 0 ≤ l.length ∧ (ix.getD r 0 = 0 → last.getD r zPut = zPut) ∧ (∀ j, ix.getD r 0 = j + 1 → l[j]? = some (last.getD r zPut))
theorem LastR.zero : LastR kn0.1 kn0.2 (List.replicate 8 0) := by
  refine ⟨rfl, fun r hr => ?_⟩
  have h1 : (List.replicate 8 0).getD r 0 = 0 := by
    rw [List.getD_eq_getElem?_getD, List.getElem?_replicate, if_pos hr]; rfl
  have h2 : kn0.1.getD r zPut = zPut := by
    unfold kn0
    rw [List.getD_eq_getElem?_getD, List.getElem?_replicate, if_pos hr]; rfl
  rw [h1, h2]
  exact ⟨Nat.zero_le _, fun _ => rfl, fun j hj => by omega⟩
theorem LastR.step {st : List PutN × List PutN} {ix : List Nat} (h : LastR st.1 st.2 ix) (hl : st.1.length = 8) {p : PutN} (hp : p.d < 8) : LastR (knS st p).1 (knS st p).2 (ix.set p.d (st.2.length + 1)) := by
  refine ⟨by simp [h.n8], fun r hr => ?_⟩
  obtain ⟨h1, h2, h3⟩ := h.at' r hr
  unfold knS
  dsimp only
  rw [getD_set _ _ _ _ _ (by rw [h.n8]; exact hp), getD_set _ _ _ _ _ (by rw [hl]; exact hp)]
  by_cases hrd : r = p.d
  · rw [if_pos hrd, if_pos hrd]
    refine ⟨by simp, fun h => by omega, fun j hj => ?_⟩
    have : j = st.2.length := by omega
    subst this
    simp
  · rw [if_neg hrd, if_neg hrd]
    refine ⟨by rw [List.length_append]; omega, h2, fun j hj => ?_⟩
    have := h3 j hj
    rw [List.getElem?_append_left (List.getElem?_eq_some_iff.1 this).1]
    exact this

/-! ### what is needed -/
def rdB (p : PutN) (q : Nat) : Bool := if p.kind = 1 then false else if p.kind = 6 ∨ p.kind = 7 then decide (p.a = q) else decide (p.a = q ∨ p.b = q)
/-- Is a slot needed ahead of these puts? -/
def nd : List PutN → Nat → Bool
  | [], _ => true
  | p :: ps, q => if nd ps p.d = true then (if rdB p q = true then true else if p.d = q then false else nd ps q) else nd ps q
/-- The puts that are needed. -/
def idle : List PutN → List PutN
  | [] => []
  | p :: ps => if nd ps p.d = true then p :: idle ps else idle ps
theorem idle_mem {p : PutN} : ∀ {l : List PutN}, p ∈ idle l → p ∈ l
  | [], h => h
  | q :: l, h => by
    unfold idle at h
    split at h
    · rcases List.mem_cons.1 h with rfl | h
      · exact List.mem_cons_self
      · exact List.mem_cons_of_mem _ (idle_mem h)
    · exact List.mem_cons_of_mem _ (idle_mem h)
theorem idle_len : ∀ l : List PutN, (idle l).length ≤ l.length
  | [] => Nat.le_refl _
  | q :: l => by
    have := idle_len l
    unfold idle
    split
    · simp; omega
    · simp; omega
theorem drop_cons' {α : Type} {l : List α} {i : Nat} {x : α} (h : l[i]? = some x) : l.drop i = x :: l.drop (i + 1) := by
  obtain ⟨hi, rfl⟩ := List.getElem?_eq_some_iff.1 h
  exact List.drop_eq_getElem_cons hi
/-- Which slots are needed behind one put more, the array's way. -/
def ndA (p : PutN) (l : List Bool) : List Bool :=
  let l1 := l.set p.d false
  let l2 := if p.kind = 1 then l1 else l1.set p.a true
  if arN p.kind = true then l2.set p.b true else l2
theorem ndA_len (p : PutN) (l : List Bool) : (ndA p l).length = l.length := by
  unfold ndA; dsimp only
  split <;> split <;> simp
def ndL (ps : List PutN) : List Bool := (List.range 8).map (nd ps)
theorem ndL_get (ps : List PutN) (q : Nat) (hq : q < 8) (z : Bool) : (ndL ps).getD q z = nd ps q := by
  unfold ndL
  rw [List.getD_eq_getElem?_getD, List.getElem?_map, List.getElem?_range hq]; rfl
theorem ndL_len (ps : List PutN) : (ndL ps).length = 8 := by simp [ndL]
theorem ndL_nil : ndL [] = List.replicate 8 true := rfl
theorem ndL_skip {p : PutN} {ps : List PutN} (h : nd ps p.d = false) : ndL (p :: ps) = ndL ps := by
  unfold ndL
  apply List.map_congr_left
  intro q _
  rw [nd, h]
  rfl
theorem ndL_keep {p : PutN} {ps : List PutN} (hp : okB p) (h : nd ps p.d = true) : ndL (p :: ps) = ndA p (ndL ps) := by
  obtain ⟨k1, k6, d8, a8, b8, _, _⟩ := hp
  apply List.ext_getElem?
  intro q
  by_cases hq : q < 8
  · have hl := ndL_len ps
    have e1 : (ndL (p :: ps))[q]? = some (nd (p :: ps) q) := by
      unfold ndL
      rw [List.getElem?_map, List.getElem?_range hq]; rfl
    have e2 : (ndL ps)[q]? = some (nd ps q) := by
      unfold ndL
      rw [List.getElem?_map, List.getElem?_range hq]; rfl
    rw [e1, nd, if_pos h]
    have hc : p.kind = 1 ∨ p.kind = 6 ∨ (2 ≤ p.kind ∧ p.kind ≤ 5) := by omega
    rcases hc with h1 | h6 | hm
    · have er : rdB p q = false := by unfold rdB; rw [if_pos h1]
      have ea : ndA p (ndL ps) = (ndL ps).set p.d false := by unfold ndA arN; dsimp only; rw [if_neg (by simp; omega), if_pos h1]
      rw [er, ea, if_neg (by decide), List.getElem?_set, e2]
      by_cases hd : p.d = q
      · rw [if_pos hd, if_pos hd, if_pos (by omega)]
      · rw [if_neg hd, if_neg hd]
    · have er : rdB p q = decide (p.a = q) := by unfold rdB; rw [if_neg (by omega), if_pos (Or.inl h6)]
      have ea : ndA p (ndL ps) = ((ndL ps).set p.d false).set p.a true := by unfold ndA arN; dsimp only; rw [if_neg (by simp; omega), if_neg (by omega)]
      rw [er, ea, List.getElem?_set, List.getElem?_set, e2, List.length_set, hl]
      by_cases ha : p.a = q
      · rw [if_pos (decide_eq_true ha), if_pos ha, if_pos (by omega)]
      · rw [if_neg (by simpa using ha), if_neg ha]
        by_cases hd : p.d = q
        · rw [if_pos hd, if_pos hd, if_pos (by omega)]
        · rw [if_neg hd, if_neg hd]
    · have er : rdB p q = decide (p.a = q ∨ p.b = q) := by unfold rdB; rw [if_neg (by omega), if_neg (by omega)]
      have ea : ndA p (ndL ps) = (((ndL ps).set p.d false).set p.a true).set p.b true := by unfold ndA arN; dsimp only; rw [if_pos (decide_eq_true hm), if_neg (by omega)]
      rw [er, ea, List.getElem?_set, List.getElem?_set, List.getElem?_set, e2, List.length_set, List.length_set, hl]
      by_cases hb : p.b = q
      · rw [if_pos (decide_eq_true (Or.inr hb)), if_pos hb, if_pos (by omega)]
      · rw [if_neg hb]
        by_cases ha : p.a = q
        · rw [if_pos (decide_eq_true (Or.inl ha)), if_pos ha, if_pos (by omega)]
        · rw [if_neg (by simp; exact ⟨ha, hb⟩), if_neg ha]
          by_cases hd : p.d = q
          · rw [if_pos hd, if_pos hd, if_pos (by omega)]
          · rw [if_neg hd, if_neg hd]
  · rw [List.getElem?_eq_none (by rw [ndL_len]; omega), List.getElem?_eq_none (by rw [ndA_len, ndL_len]; omega)]

/-! ### the text of a plan -/
def putT (p : PutN) : List UInt8 := UInt8.ofNat p.kind :: UInt8.ofNat p.d :: UInt8.ofNat p.a :: UInt8.ofNat p.b :: numB 4 p.k
theorem putT_len (p : PutN) : (putT p).length = 8 := rfl
def planT (ps : List PutN) : List UInt8 := ps.flatMap putT
theorem planT_snoc (ps : List PutN) (p : PutN) : planT (ps ++ [p]) = planT ps ++ putT p := by simp [planT]
theorem planT_len (ps : List PutN) : (planT ps).length = 8 * ps.length := by
  induction ps with
  | nil => rfl
  | cons p ps ih =>
    have : planT (p :: ps) = putT p ++ planT ps := by simp [planT]
    rw [this, List.length_append, ih, putT_len, List.length_cons]; omega
/-- A block's own plan. -/
def ownP (s : ByteArray) : List PutN := idle (wKn (blkPuts s))
theorem nPl_len (s : ByteArray) : (blkPuts s).length = nPl s := by simp [blkPuts]
theorem ownP_ok {s : ByteArray} (h : blkOK s) : (∀ p ∈ ownP s, okB p) ∧ (ownP s).length ≤ nPl s := by
  obtain ⟨h1, h2⟩ := wKn_ok (blkPuts_okB h)
  refine ⟨fun p hp => h1 p (idle_mem hp), ?_⟩
  have := idle_len (wKn (blkPuts s))
  rw [h2, nPl_len] at this
  exact this

/-! ### the block at a place -/
/-- How many words the block at a place has, of at most f. -/
def blkN (mem : List Int) : Nat → Nat → Nat
  | 0, _ => 0
  | f + 1, p => if p < 128 then (if plW (mem.getD p 0) = true then blkN mem f (p + 1) + 1 else 1) else 0
def blkW (mem : List Int) (pc n : Nat) : List Nat := (List.range n).map fun j => (mem.getD (pc + j) 0).toNat
def wdsT (ws : List Nat) : List UInt8 := ws.flatMap (numB 4)
theorem blkW_succ (mem : List Int) (pc n : Nat) : blkW mem pc (n + 1) = blkW mem pc n ++ [(mem.getD (pc + n) 0).toNat] := by simp [blkW, List.range_succ]
theorem wdsT_snoc (ws : List Nat) (v : Nat) : wdsT (ws ++ [v]) = wdsT ws ++ numB 4 v := by simp [wdsT]
theorem wdsT_len (ws : List Nat) : (wdsT ws).length = 4 * ws.length := by
  induction ws with
  | nil => rfl
  | cons v ws ih =>
    have : wdsT (v :: ws) = numB 4 v ++ wdsT ws := by simp [wdsT]
    rw [this, List.length_append, ih, numB_len, List.length_cons]; omega
/-- Going on: n words have been taken, all of them plain, and there may be one more. -/
theorem blkN_go (mem : List Int) (pc : Nat) : ∀ (f n : Nat), (∀ j, j < n → plW (mem.getD (pc + j) 0) = true) → n + f = 8 → pc + n ≤ 128 → blkN mem 8 pc = n + blkN mem f (pc + n) := by
  intro f
  induction f with
  | zero =>
    intro n
    have key : ∀ (g m p : Nat), (∀ j, j < m → plW (mem.getD (p + j) 0) = true) → m = g → p + m ≤ 128 → blkN mem g p = m := by
      intro g
      induction g with
      | zero => intro m p _ hm _; rw [hm]; rfl
      | succ g ih =>
        intro m p h hm hp
        rw [blkN, if_pos (by omega), if_pos (by have := h 0 (by omega); simpa using this), ih (m - 1) (p + 1) (fun j hj => by have := h (j + 1) (by omega); rw [show p + 1 + j = p + (j + 1) by omega]; exact this) (by omega) (by omega)]
        omega
    intro h hn hp
    have hn' : n = 8 := by omega
    subst hn'
    rw [key 8 8 pc h rfl hp]
    rfl
  | succ f ih =>
    intro n h hn hp
    by_cases hlt : pc + n < 128
    · by_cases hpl : plW (mem.getD (pc + n) 0) = true
      · have := ih (n + 1) (fun j hj => by
          by_cases hjn : j = n
          · subst hjn; exact hpl
          · exact h j (by omega)) (by omega) (by omega)
        rw [this, blkN, if_pos hlt, if_pos hpl, Nat.add_assoc pc n 1]
        omega
      · have key : ∀ (m g p : Nat), (∀ j, j < m → plW (mem.getD (p + j) 0) = true) → m < g → p + m < 128 → ¬ plW (mem.getD (p + m) 0) = true → blkN mem g p = m + 1 := by
          intro m
          induction m with
          | zero =>
            intro g p _ hg hp hno
            obtain ⟨g, rfl⟩ : ∃ g', g = g' + 1 := ⟨g - 1, by omega⟩
            rw [Nat.add_zero] at hp hno
            rw [blkN, if_pos hp, if_neg hno]
          | succ m ihm =>
            intro g p hj hg hp hno
            obtain ⟨g, rfl⟩ : ∃ g', g = g' + 1 := ⟨g - 1, by omega⟩
            rw [blkN, if_pos (by omega), if_pos (by have := hj 0 (by omega); simpa using this)]
            rw [ihm g (p + 1) (fun j hj' => by have := hj (j + 1) (by omega); rw [show p + 1 + j = p + (j + 1) by omega]; exact this) (by omega) (by omega) (by rw [show p + 1 + m = p + (m + 1) by omega]; exact hno)]
        rw [key n 8 pc h (by omega) hlt hpl, blkN, if_pos hlt, if_neg hpl]
    · have key : ∀ (m g p : Nat), (∀ j, j < m → plW (mem.getD (p + j) 0) = true) → m ≤ g → p + m = 128 → blkN mem g p = m := by
        intro m
        induction m with
        | zero =>
          intro g p _ _ hp
          cases g with
          | zero => rfl
          | succ g => rw [blkN, if_neg (by omega)]
        | succ m ihm =>
          intro g p hj hg hp
          obtain ⟨g, rfl⟩ : ∃ g', g = g' + 1 := ⟨g - 1, by omega⟩
          rw [blkN, if_pos (by omega), if_pos (by have := hj 0 (by omega); simpa using this)]
          rw [ihm g (p + 1) (fun j hj' => by have := hj (j + 1) (by omega); rw [show p + 1 + j = p + (j + 1) by omega]; exact this) (by omega) (by omega)]
      rw [key n 8 pc h (by omega) (by omega), blkN, if_neg hlt]
      omega
def blkTxt (mem : List Int) (pc : Nat) : List UInt8 := wdsT (blkW mem pc (blkN mem 8 pc))
end Go.Proofs.YtmmflekajbeamaaDoor

namespace Go.Proofs.YtmmflekajbeamaaDoor
open Go.RowKit Go.Maps Go.WideMaps

theorem eqItems_gen {P : Program} (d : Nat) {e : TypeId} (he : P.underlying e = some (.int .i64)) (x y : List Int) (w : World) : ∀ (is : List Nat), (∀ i ∈ is, i < x.length ∧ i < y.length) →
    (Op.eqItems (d + 1) e 1 (S x) (S y) is).run P w = .ok (is.all fun i => gz x i == gz y i) w
  | [], _ => by simp [Op.eqItems]
  | i :: is, h => by
    obtain ⟨h1, h2⟩ := h i (by simp)
    have px : (part e (S x) (i * 1)).run P w = .ok (.int .i64 (gz x i)) w := by
      rw [Nat.mul_one]
      simp [part, isAgg, run_underlying he, S_get x i h1]
    have py : (part e (S y) (i * 1)).run P w = .ok (.int .i64 (gz y i)) w := by
      rw [Nat.mul_one]
      simp [part, isAgg, run_underlying he, S_get y i h2]
    have pe : (Op.equalIn (d + 1) e (.int .i64 (gz x i)) (.int .i64 (gz y i))).run P w = .ok (gz x i == gz y i) w := run_equalIn_int w d e .i64 .i64 _ _ he
    simp only [Op.eqItems, Sem.run_bind, px, py, pe, Result.andThen_ok, List.all_cons]
    cases hq : (gz x i == gz y i)
    · simp
    · simpa using eqItems_gen d he x y w is (fun j hj => h j (by simp [hj]))
theorem csI1 : Tryd.prog.cellsOf 3 = 1 := by kernel_rfl
theorem infI1 : ∃ i, Tryd.prog.info? 3 = some i := by
  cases h : Tryd.prog.info? 3 with
  | none => exact absurd (show (Tryd.prog.info? 3).isSome = true by kernel_rfl) (by rw [h]; decide)
  | some i => exact ⟨i, rfl⟩
theorem all_eq {x y : List Int} {n : Nat} (hx : x.length = n) (hy : y.length = n) : ((List.range n).all fun i => gz x i == gz y i) = decide (x = y) := by
  rw [Bool.eq_iff_iff, List.all_eq_true, decide_eq_true_eq]
  constructor
  · intro h
    apply List.ext_getElem?
    intro i
    by_cases hi : i < n
    · have := h i (List.mem_range.2 hi)
      rw [beq_iff_eq] at this
      unfold gz at this
      rw [List.getD_eq_getElem?_getD, List.getD_eq_getElem?_getD, List.getElem?_eq_getElem (by omega), List.getElem?_eq_getElem (by omega)] at this
      rw [List.getElem?_eq_getElem (by omega), List.getElem?_eq_getElem (by omega)]
      simpa using this
    · rw [List.getElem?_eq_none (by omega), List.getElem?_eq_none (by omega)]
  · rintro rfl i _
    exact beq_self_eq_true _
theorem eq8 (x y : List Int) (hx : x.length = 8) (hy : y.length = 8) (w : World) : (binOp .eql 31 (.agg (S x)) (.agg (S y))).run Tryd.prog w = .ok (.bool (decide (x = y))) w := by
  obtain ⟨i, hi⟩ := infI1
  rw [run_eql_struct, run_equalIn_array w 9999 (S x) (S y) Tryd.underlying31 hi, csI1, eqItems_gen 9998 Tryd.underlying3 x y w _ (fun j hj => by have := List.mem_range.1 hj; omega), all_eq hx hy]
  rfl
/-- The document's answer to Accept. -/
def AccIs (s p : ByteArray) (n : Int) : Prop :=
  (¬ blkOK s ∧ n = 10) ∨ (blkOK s ∧ ¬ putsOK p ∧ n = 11) ∨ (blkOK s ∧ putsOK p ∧ (comeS (blkPuts s)).take 8 = (comeS (putL p (p.size / 8))).take 8 ∧ n = 0) ∨ (blkOK s ∧ putsOK p ∧ ¬ (comeS (blkPuts s)).take 8 = (comeS (putL p (p.size / 8))).take 8 ∧ n = 12)
theorem AccIs.one {s p : ByteArray} {n m : Int} (h : AccIs s p n) (k : AccIs s p m) : n = m := by
  unfold AccIs at h k
  rcases h with ⟨h1, h2⟩ | ⟨h1, h2, h3⟩ | ⟨h1, h2, h3, h4⟩ | ⟨h1, h2, h3, h4⟩ <;> rcases k with ⟨k1, k2⟩ | ⟨k1, k2, k3⟩ | ⟨k1, k2, k3, k4⟩ | ⟨k1, k2, k3, k4⟩
  all_goals first | exact absurd h1 k1 | exact absurd k1 h1 | exact absurd h2 k2 | exact absurd k2 h2 | exact absurd h3 k3 | exact absurd k3 h3 | omega
/-- The program's words of a block, against the text's. -/
theorem plN_nPl {s : ByteArray} (h : blkOK s) : plN (blkL s (s.size / 4)) = nPl s := by
  have h4 := h.1
  unfold plN nPl
  rw [blkL_len, blkL_at s (by omega)]
  cases hq : plW (wdAt s (s.size / 4 - 1))
  · rw [if_pos ⟨by omega, rfl⟩, if_neg (by decide)]
  · rw [if_neg (fun h => by cases h.2), if_pos rfl]
theorem blkL_take (s : ByteArray) {k n : Nat} (h : n ≤ k) : (blkL s k).take n = blkL s n := by
  unfold blkL
  rw [← List.map_take, List.take_range, Nat.min_eq_left h]
theorem pwL_blk (s : ByteArray) : pwL (blkL s (nPl s)) = blkPuts s := by
  unfold pwL blkL blkPuts
  rw [List.map_map]
  rfl
theorem tab_new (W : World) : TabAt W.heap.size (W.heap.size + 1) [] W.heap.size (.slice none 0 0) ((W.alloc (.map #[] 0)).alloc (.cells #[.map (some W.heap.size), .slice none 0 0] 140)) := by
  refine ⟨?_, ?_, fun i => ?_, by omega, Nat.le_refl _, (fun g hg => by cases hg), World.ownsRow_nil _ _ _ _, .map [], (World.ownsMap_made W _ _ _).alloc _, fun e _ => ⟨⟨fun h => (by cases h), fun h => (by cases h)⟩, fun n hn => (by simp at hn)⟩⟩
  · rw [World.cell?_alloc_at (hn := by rw [size_alloc1])]; rfl
  · rw [World.cell?_alloc_at (hn := by rw [size_alloc1])]; rfl
  · rw [World.frozen?_alloc_at (hn := by rw [size_alloc1])]
theorem mk137 (w : World) : (Instr.makeMap 137 none).run Tryd.prog w = .ok (.map (some w.heap.size)) (w.alloc (.map #[] 0)) := by kernel_rfl
theorem nI_inj {a b : List Nat} : nI a = nI b ↔ a = b := by
  unfold nI
  constructor
  · intro h
    exact List.map_inj_right (fun x y h => by omega) |>.1 h
  · rintro rfl; rfl
theorem own_take {w : World} {B : Nat} {v : Value} {n m : Nat} {xs : List Value} {e : TypeId} {k : Nat} (h : w.ownsRow B e k v n xs) (hn : n = m) : w.ownsRow B e k v m xs := hn ▸ h

set_option maxRecDepth 100000 in
set_option maxHeartbeats 2000000 in
theorem meanAccept_any (s p : ByteArray) (w : World) (ht : Tab w) (hs : s.size ≤ maxLen) (hp : p.size ≤ maxLen) :
    Calls Tryd.prog 59 #[.string s, .string p] w fun e' w' => Below w.heap.size w w' ∧ ∃ n, e' = .returned (.int .i64 n) ∧ AccIs s p n := by
  have z9 := zero9
  have HRd := hide (blkRead_any s w ht hs)
  have HPt := hide (fun w' => plansPuts_any p w' hp)
  have HTb := hide ht
  have hpos := ht.pos
  clear ht
  go_enter Tryd.func59, Tryd.ntmps59
  go_wp2_with fail
  refine (unhide HRd).mono ?_
  rintro e w1 ⟨hb1, ⟨hok, rfl⟩ | ⟨hno, rfl⟩⟩
  · have HB1 := hide hb1; have HOk := hide hok
    have hz1 := hb1.size
    have h8 : s.size / 4 ≤ 8 := by have := hok.2.1; omega
    have hzl := wdZ_len (ws := blkL s (s.size / 4)) (by rw [blkL_len]; exact h8)
    clear hb1 hok HRd
    go_wp2_with (refine wpList_storeR size9 rfl _ _ rfl w1.heap.size rfl (wdZ (blkL s (s.size / 4))) rfl hzl (by rw [isRowB_alloc_at _ _ _ _ _ rfl]; rfl) _ (setRow_alloc_at _ _ _ _ _ rfl) ?_)
    refine (unhide HPt _).mono ?_
    rintro e w2 ⟨hb2, ⟨hpk, pv, rfl, hpo⟩ | ⟨hpn, rfl⟩⟩
    · have HRw := hide (RowI.keep (w' := w2) (show RowI (w1.alloc (.cells (S (wdZ (blkL s (s.size / 4)))) 127)) w1.heap.size 127 (wdZ (blkL s (s.size / 4))) from _root_.Go.heap_alloc_new w1 _) (hb2.block _ (by rw [size_alloc1]; omega)))
      have HB2 : Hid (Below w.heap.size w w2) := (HB1.out.alloc hz1 _).trans (hb2.mono (by rw [size_alloc1]; omega))
      have hz2 : w1.heap.size < w2.heap.size := HRw.out.lt
      have HPk := hide hpk; have HPo := hide hpo
      have HRl := hide (fun w' => plain_list (blkL s (s.size / 4)) w')
      clear hb2 hpk hpo HPt
      obtain ⟨W3, hW3⟩ : ∃ W3, W3 = ((w2.alloc (.map #[] 0)).alloc (.cells #[.map (some w2.heap.size), .slice none 0 0] 140)) := ⟨_, rfl⟩
      have HW := hide hW3
      have h3b : Below w2.heap.size w2 W3 := by rw [hW3]; exact ((Below.refl _ _).alloc (Nat.le_refl _) _).alloc (by rw [size_alloc1]; omega) _
      have h3z : W3.heap.size = w2.heap.size + 1 + 1 := by rw [hW3, size_alloc1, size_alloc1]
      have H3T : Hid (TabAt w2.heap.size (w2.heap.size + 1) [] w2.heap.size (.slice none 0 0) W3) := by unfold Hid; rw [hW3]; exact tab_new w2
      have H3B := hide h3b
      have r3 := HRw.out.keep (h3b.block _ hz2)
      have rI := r3.isRow 9 hzl
      have rD := r3.rowD
      have HPl := hide (plain_list (blkL s (s.size / 4)) W3 (HTb.out.below hpos (HB2.out.trans (h3b.mono (Nat.le_trans hz1 (Nat.le_of_lt hz2))))) (by rw [blkL_len]; exact h8) (blkL_bd s _))
      have mk := mk137 w2
      clear hW3 h3b r3 HRl
      go_wp2_with (refine wpList_loadR rfl Tryd.underlying127 size9 rfl _ rfl w1.heap.size rfl (by rw [← HW.out]; exact rI) (S (wdZ (blkL s (s.size / 4)))) (by rw [← HW.out]; exact rD) ?_)
      rw [← HW.out]
      refine (unhide HPl).mono ?_
      rintro e w4 ⟨hb4, fv, rfl, hfo⟩
      rw [plN_nPl HOk.out, blkL_take s (nPl_le s)] at hfo
      have HOf := hide (ofWords_any _ fv (blkL s (nPl s)) w4 (own_take hfo (blkL_len s _).symm) (by rw [blkL_len]; exact Nat.le_trans (nPl_le s) h8))
      have HB4 := hide hb4
      have hz4 := hb4.size
      clear hb4 hfo HPl rI rD
      go_wp2_with fail
      refine (unhide HOf).mono ?_
      rintro e w5 ⟨hb5, pv1, rfl, hpo1⟩
      rw [pwL_blk, blkL_len, ← nPl_len] at hpo1
      have hz5 := hb5.size
      have H35 : Hid (Below W3.heap.size W3 w5) := HB4.out.trans (hb5.mono hz4)
      have HCo := hide (comeTo_any w2.heap.size _ (w2.heap.size + 1) [] [] w2.heap.size (.slice none 0 0) pv1 (blkPuts s) w5 (H3T.out.above H35.out) TI.nil hpo1 (blkPuts_ok HOk.out) (by rw [nPl_len]; have := nPl_le s; omega) (by simp) (fun g hg => by have := (row_lt hpo1 g hg).1; omega))
      clear hb5 hpo1 HOf
      go_wp2_with fail
      refine (unhide HCo).mono ?_
      rintro e w6 ⟨T1, ds1, v1, ns1, rfl, c1, c2, c3, c4, c5, c6⟩
      have H25 : Hid (Below w2.heap.size w2 w6) := (H3B.out.trans (H35.out.mono (by omega))).trans c5.below
      have hpo6 : w6.ownsRow (w1.alloc (.cells (S (wdZ (blkL s (s.size / 4)))) 127)).heap.size 59 5 pv (putL p (p.size / 8)).length (putCs (putL p (p.size / 8))) := own_take (own_grow HPo.out H25.out) (putL_len p _).symm
      have HCo2 := hide (comeTo_any w2.heap.size _ (w2.heap.size + 1) T1 ds1 w2.heap.size v1 pv (putL p (p.size / 8)) w6 c1 c2 hpo6 (putL_ok HPk.out) (by rw [putL_len]; have := HPk.out.2.1; omega) (by simp at c6; omega) (fun g hg => by have := (row_lt HPo.out g hg).2; omega))
      have HC4 := hide c4; have HC2 := hide c2
      have hl1 := c4.n16
      clear c1 c2 c3 c4 c5 c6 hpo6 HCo
      go_wp2_with fail
      refine (unhide HCo2).mono ?_
      rintro e w7 ⟨T2, ds2, v2, ns2, rfl, q1, q2, q3, q4, q5, q6⟩
      have HB7 : Hid (Below w.heap.size w w7) := HB2.out.trans ((H25.out.trans q5.below).mono (Nat.le_trans hz1 (Nat.le_of_lt hz2)))
      have HSm : Hid (nI (ns1.take 8) = nI (ns2.take 8) ↔ (comeS (blkPuts s)).take 8 = (comeS (putL p (p.size / 8))).take 8) := by
        unfold Hid
        rw [nI_inj]
        exact Slots.same q2 (HC4.out.more HC2.out.len q3) q4
      have hl2 := q4.n16
      have heq := eq8 (nI (ns1.take 8)) (nI (ns2.take 8)) (by rw [nI_len, List.length_take]; omega) (by rw [nI_len, List.length_take]; omega)
      clear q1 q2 q3 q4 q5 q6 HCo2 HC4
      by_cases hsame : nI (ns1.take 8) = nI (ns2.take 8)
      · rw [decide_eq_true hsame] at heq
        have HY := hide (HSm.out.1 hsame)
        clear hsame HSm
        go_wp2_with fail
        go_ret
        exact ⟨HB7.out, _, rfl, .inr (.inr (.inl ⟨HOk.out, HPk.out, HY.out, rfl⟩))⟩
      · rw [decide_eq_false hsame] at heq
        have HY : Hid (¬ (comeS (blkPuts s)).take 8 = (comeS (putL p (p.size / 8))).take 8) := fun h => hsame (HSm.out.2 h)
        clear hsame HSm
        go_wp2_with fail
        go_ret
        exact ⟨HB7.out, _, rfl, .inr (.inr (.inr ⟨HOk.out, HPk.out, HY.out, rfl⟩))⟩
    · have HB2 : Hid (Below w.heap.size w w2) := (HB1.out.alloc hz1 _).trans (hb2.mono (by rw [size_alloc1]; omega))
      have HN := hide hpn
      clear hb2 hpn
      go_wp2_with fail
      go_ret
      exact ⟨HB2.out, _, rfl, .inr (.inl ⟨HOk.out, HN.out, rfl⟩)⟩
  · have HB1 := hide hb1; have HNo := hide hno
    have hz1 := hb1.size
    clear hb1 hno HRd
    go_wp2_with (refine wpList_storeR size9 rfl _ _ rfl w1.heap.size rfl (wdZ []) rfl rfl (by rw [isRowB_alloc_at _ _ _ _ _ rfl]; rfl) _ (setRow_alloc_at _ _ _ _ _ rfl) ?_)
    go_ret
    exact ⟨HB1.out.alloc hz1 _, _, rfl, .inl ⟨HNo.out, rfl⟩⟩

set_option maxRecDepth 100000 in
set_option maxHeartbeats 400000 in
theorem cribAccept_any (s p : ByteArray) (w : World) (ht : Tab w) (hs : s.size ≤ maxLen) (hp : p.size ≤ maxLen) :
    Calls Tryd.prog 27 #[.string s, .string p] w fun e' w' => Below w.heap.size w w' ∧ ∃ n, e' = .returned (.int .i64 n) ∧ AccIs s p n := by
  have HP := hide (meanAccept_any s p w ht hs hp)
  clear ht
  go_enter Tryd.func27, Tryd.ntmps27
  go_wp2_with fail
  refine (unhide HP).mono ?_
  rintro e w1 ⟨hb, n, rfl, hn⟩
  have HB := hide hb; have HN := hide hn
  clear hb hn
  go_wp2_with fail
  go_ret
  exact ⟨HB.out, n, rfl, HN.out⟩
end Go.Proofs.YtmmflekajbeamaaDoor
