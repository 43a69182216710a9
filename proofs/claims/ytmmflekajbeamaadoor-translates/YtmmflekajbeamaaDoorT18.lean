/-
  Translates, as plain mathematics: a block's own plan: puts with what is known laid in, and without those that nobody needs; the words of the block at a place.
  Translates: whole numbers laid behind bytes (number.Append); bytes as a string.
  Translates: the text of a plan (plans.Text); puts with what is known (withKnown).
-/
import Derived.Test.YtmmflekajbeamaaDoorT12
import Derived.Test.YtmmflekajbeamaaDoorT17
import Derived.Lib.BufferRead
import Derived.Test.YtmmflekajbeamaaDoorT15
import Derived.Test.YtmmflekajbeamaaDoorT16
namespace Go.Proofs.YtmmflekajbeamaaDoor

/-! ### what is known -/
def zPut : PutN := ⟨0, 0, 0, 0, 0⟩
def arN (k : Nat) : Bool := decide (2 ≤ k ∧ k ≤ 5)
/-- A put, with a Set in its place if both that it reads are known. -/
def knP (last : List PutN) (p : PutN) : PutN :=
  if arN p.kind = true ∧ (last.getD p.a zPut).kind = 1 ∧ (last.getD p.b zPut).kind = 1 then ⟨1, p.d, 0, 0, (wk p.kind (last.getD p.a zPut).k (last.getD p.b zPut).k).toNat⟩ else p
theorem knP_d (last : List PutN) (p : PutN) : (knP last p).d = p.d := by unfold knP; split <;> rfl
def knS (st : List PutN × List PutN) (p : PutN) : List PutN × List PutN := (st.1.set p.d (knP st.1 p), st.2 ++ [knP st.1 p])
def kn0 : List PutN × List PutN := (List.replicate 8 zPut, [])
def knF (ps : List PutN) : List PutN × List PutN := ps.foldl knS kn0
def wKn (ps : List PutN) : List PutN := (knF ps).2
/-- What a put of a block's own plan is like. -/
def okB (p : PutN) : Prop := 1 ≤ p.kind ∧ p.kind ≤ 6 ∧ p.d < 8 ∧ p.a < 8 ∧ p.b < 8 ∧ p.k < 4294967296 ∧ okPut p
theorem okB.kn {last : List PutN} (hl : ∀ q ∈ last, q.k < 4294967296) {p : PutN} (h : okB p) : okB (knP last p) := by
  have hb : ∀ i, (last.getD i zPut).k < 4294967296 := fun i => by
    rw [List.getD_eq_getElem?_getD]
    cases hi : last[i]? with
    | none => decide
    | some q => exact hl q (List.mem_of_getElem? hi)
  unfold knP
  split
  · have := wk_bd p.kind (last.getD p.a zPut).k (last.getD p.b zPut).k (by omega) (by have := hb p.a; omega) (by omega) (by have := hb p.b; omega)
    have h3 := h.2.2.1
    exact ⟨Nat.le_refl _, by dsimp only; omega, h3, Nat.zero_lt_succ _, Nat.zero_lt_succ _, by dsimp only; omega, ⟨by dsimp only; omega, Nat.zero_lt_succ _, Nat.zero_lt_succ _, .inl ⟨rfl, rfl, rfl⟩⟩⟩
  · exact h
structure KnOK (st : List PutN × List PutN) (n : Nat) : Prop where
  l8 : st.1.length = 8
  len : st.2.length = n
  bd : ∀ q ∈ st.1, q.k < 4294967296
  ok : ∀ q ∈ st.2, okB q
theorem KnOK.zero : KnOK kn0 0 := ⟨rfl, rfl, fun q hq => by rw [List.eq_of_mem_replicate hq]; decide, fun q hq => by cases hq⟩
theorem KnOK.step {st : List PutN × List PutN} {n : Nat} (h : KnOK st n) {p : PutN} (hp : okB p) : KnOK (knS st p) (n + 1) := by
  have hk := hp.kn h.bd
  refine ⟨by simp [knS, h.l8], by simp [knS, h.len], fun q hq => ?_, fun q hq => ?_⟩
  · rcases List.mem_or_eq_of_mem_set hq with hq | rfl
    · exact h.bd q hq
    · exact hk.2.2.2.2.2.1
  · rcases List.mem_append.1 hq with hq | hq
    · exact h.ok q hq
    · rw [List.mem_singleton.1 hq]; exact hk
theorem KnOK.fold {ps : List PutN} (h : ∀ p ∈ ps, okB p) : ∀ k, k ≤ ps.length → KnOK ((ps.take k).foldl knS kn0) k := by
  intro k
  induction k with
  | zero => intro _; exact KnOK.zero
  | succ k ih =>
    intro hk
    have hx : ps[k]? = some ps[k] := List.getElem?_eq_getElem (by omega)
    rw [foldl_take_succ _ _ _ _ _ hx]
    exact (ih (by omega)).step (h _ (List.getElem_mem _))
theorem wKn_ok {ps : List PutN} (h : ∀ p ∈ ps, okB p) : (∀ p ∈ wKn ps, okB p) ∧ (wKn ps).length = ps.length := by
  have := KnOK.fold h ps.length (Nat.le_refl _)
  rw [List.take_length] at this
  exact ⟨this.ok, this.len⟩
theorem blkPuts_okB {s : ByteArray} (h : blkOK s) : ∀ p ∈ blkPuts s, okB p := by
  intro p hp
  obtain ⟨j, hj, rfl⟩ := List.mem_map.1 hp
  obtain ⟨h1, h2, h3, h4, h5, h6, h7⟩ := putW_ok (blk_plain h (List.mem_range.1 hj))
  exact ⟨h6, h7, h2, h3, h4, by omega, h1⟩
/-- The places behind the last puts, by which the document tells what is known, against the puts themselves. -/
structure LastR (last : List PutN) (l : List PutN) (ix : List Nat) : Prop where
  n8 : ix.length = 8
  at' : ∀ r, r < 8 → ix.getD r 0 ≤ l.length ∧ (ix.getD r 0 = 0 → last.getD r zPut = zPut) ∧ (∀ j, ix.getD r 0 = j + 1 → l[j]? = some (last.getD r zPut))
theorem LastR.zero : LastR kn0.1 kn0.2 (List.replicate 8 0) := by
  refine ⟨rfl, fun r hr => ?_⟩
  have h1 : (List.replicate 8 0).getD r 0 = 0 := by
    rw [List.getD_eq_getElem?_getD, List.getElem?_replicate, if_pos hr]; rfl
  have h2 : kn0.1.getD r zPut = zPut := by
    unfold kn0
    rw [List.getD_eq_getElem?_getD, List.getElem?_replicate, if_pos hr]; rfl
  rw [h1, h2]
  exact ⟨Nat.zero_le _, fun _ => rfl, fun j hj => by omega⟩
theorem LastR.step {st : List PutN × List PutN} {ix : List Nat} (h : LastR st.1 st.2 ix) (hl : st.1.length = 8) {p : PutN} (hp : p.d < 8) : LastR (knS st p).1 (knS st p).2 (ix.set p.d (st.2.length + 1)) := by
  refine ⟨by simp [h.n8], fun r hr => ?_⟩
  obtain ⟨h1, h2, h3⟩ := h.at' r hr
  unfold knS
  dsimp only
  rw [getD_set _ _ _ _ _ (by rw [h.n8]; exact hp), getD_set _ _ _ _ _ (by rw [hl]; exact hp)]
  by_cases hrd : r = p.d
  · rw [if_pos hrd, if_pos hrd]
    refine ⟨by simp, fun h => by omega, fun j hj => ?_⟩
    have : j = st.2.length := by omega
    subst this
    simp
  · rw [if_neg hrd, if_neg hrd]
    refine ⟨by rw [List.length_append]; omega, h2, fun j hj => ?_⟩
    have := h3 j hj
    rw [List.getElem?_append_left (List.getElem?_eq_some_iff.1 this).1]
    exact this

/-! ### what is needed -/
def rdB (p : PutN) (q : Nat) : Bool := if p.kind = 1 then false else if p.kind = 6 ∨ p.kind = 7 then decide (p.a = q) else decide (p.a = q ∨ p.b = q)
/-- Is a slot needed ahead of these puts? -/
def nd : List PutN → Nat → Bool
  | [], _ => true
  | p :: ps, q => if nd ps p.d = true then (if rdB p q = true then true else if p.d = q then false else nd ps q) else nd ps q
/-- The puts that are needed. -/
def idle : List PutN → List PutN
  | [] => []
  | p :: ps => if nd ps p.d = true then p :: idle ps else idle ps
theorem idle_mem {p : PutN} : ∀ {l : List PutN}, p ∈ idle l → p ∈ l
  | [], h => h
  | q :: l, h => by
    unfold idle at h
    split at h
    · rcases List.mem_cons.1 h with rfl | h
      · exact List.mem_cons_self
      · exact List.mem_cons_of_mem _ (idle_mem h)
    · exact List.mem_cons_of_mem _ (idle_mem h)
theorem idle_len : ∀ l : List PutN, (idle l).length ≤ l.length
  | [] => Nat.le_refl _
  | q :: l => by
    have := idle_len l
    unfold idle
    split
    · simp; omega
    · simp; omega
theorem drop_cons' {α : Type} {l : List α} {i : Nat} {x : α} (h : l[i]? = some x) : l.drop i = x :: l.drop (i + 1) := by
  obtain ⟨hi, rfl⟩ := List.getElem?_eq_some_iff.1 h
  exact List.drop_eq_getElem_cons hi
/-- Which slots are needed behind one put more, the array's way. -/
def ndA (p : PutN) (l : List Bool) : List Bool :=
  let l1 := l.set p.d false
  let l2 := if p.kind = 1 then l1 else l1.set p.a true
  if arN p.kind = true then l2.set p.b true else l2
theorem ndA_len (p : PutN) (l : List Bool) : (ndA p l).length = l.length := by
  unfold ndA; dsimp only
  split <;> split <;> simp
def ndL (ps : List PutN) : List Bool := (List.range 8).map (nd ps)
theorem ndL_get (ps : List PutN) (q : Nat) (hq : q < 8) (z : Bool) : (ndL ps).getD q z = nd ps q := by
  unfold ndL
  rw [List.getD_eq_getElem?_getD, List.getElem?_map, List.getElem?_range hq]; rfl
theorem ndL_len (ps : List PutN) : (ndL ps).length = 8 := by simp [ndL]
theorem ndL_nil : ndL [] = List.replicate 8 true := rfl
theorem ndL_skip {p : PutN} {ps : List PutN} (h : nd ps p.d = false) : ndL (p :: ps) = ndL ps := by
  unfold ndL
  apply List.map_congr_left
  intro q _
  rw [nd, h]
  rfl
theorem ndL_keep {p : PutN} {ps : List PutN} (hp : okB p) (h : nd ps p.d = true) : ndL (p :: ps) = ndA p (ndL ps) := by
  obtain ⟨k1, k6, d8, a8, b8, _, _⟩ := hp
  apply List.ext_getElem?
  intro q
  by_cases hq : q < 8
  · have hl := ndL_len ps
    have e1 : (ndL (p :: ps))[q]? = some (nd (p :: ps) q) := by
      unfold ndL
      rw [List.getElem?_map, List.getElem?_range hq]; rfl
    have e2 : (ndL ps)[q]? = some (nd ps q) := by
      unfold ndL
      rw [List.getElem?_map, List.getElem?_range hq]; rfl
    rw [e1, nd, if_pos h]
    have hc : p.kind = 1 ∨ p.kind = 6 ∨ (2 ≤ p.kind ∧ p.kind ≤ 5) := by omega
    rcases hc with h1 | h6 | hm
    · have er : rdB p q = false := by unfold rdB; rw [if_pos h1]
      have ea : ndA p (ndL ps) = (ndL ps).set p.d false := by unfold ndA arN; dsimp only; rw [if_neg (by simp; omega), if_pos h1]
      rw [er, ea, if_neg (by decide), List.getElem?_set, e2]
      by_cases hd : p.d = q
      · rw [if_pos hd, if_pos hd, if_pos (by omega)]
      · rw [if_neg hd, if_neg hd]
    · have er : rdB p q = decide (p.a = q) := by unfold rdB; rw [if_neg (by omega), if_pos (Or.inl h6)]
      have ea : ndA p (ndL ps) = ((ndL ps).set p.d false).set p.a true := by unfold ndA arN; dsimp only; rw [if_neg (by simp; omega), if_neg (by omega)]
      rw [er, ea, List.getElem?_set, List.getElem?_set, e2, List.length_set, hl]
      by_cases ha : p.a = q
      · rw [if_pos (decide_eq_true ha), if_pos ha, if_pos (by omega)]
      · rw [if_neg (by simpa using ha), if_neg ha]
        by_cases hd : p.d = q
        · rw [if_pos hd, if_pos hd, if_pos (by omega)]
        · rw [if_neg hd, if_neg hd]
    · have er : rdB p q = decide (p.a = q ∨ p.b = q) := by unfold rdB; rw [if_neg (by omega), if_neg (by omega)]
      have ea : ndA p (ndL ps) = (((ndL ps).set p.d false).set p.a true).set p.b true := by unfold ndA arN; dsimp only; rw [if_pos (decide_eq_true hm), if_neg (by omega)]
      rw [er, ea, List.getElem?_set, List.getElem?_set, List.getElem?_set, e2, List.length_set, List.length_set, hl]
      by_cases hb : p.b = q
      · rw [if_pos (decide_eq_true (Or.inr hb)), if_pos hb, if_pos (by omega)]
      · rw [if_neg hb]
        by_cases ha : p.a = q
        · rw [if_pos (decide_eq_true (Or.inl ha)), if_pos ha, if_pos (by omega)]
        · rw [if_neg (by simp; exact ⟨ha, hb⟩), if_neg ha]
          by_cases hd : p.d = q
          · rw [if_pos hd, if_pos hd, if_pos (by omega)]
          · rw [if_neg hd, if_neg hd]
  · rw [List.getElem?_eq_none (by rw [ndL_len]; omega), List.getElem?_eq_none (by rw [ndA_len, ndL_len]; omega)]

/-! ### the text of a plan -/
def putT (p : PutN) : List UInt8 := UInt8.ofNat p.kind :: UInt8.ofNat p.d :: UInt8.ofNat p.a :: UInt8.ofNat p.b :: numB 4 p.k
theorem putT_len (p : PutN) : (putT p).length = 8 := rfl
def planT (ps : List PutN) : List UInt8 := ps.flatMap putT
theorem planT_snoc (ps : List PutN) (p : PutN) : planT (ps ++ [p]) = planT ps ++ putT p := by simp [planT]
theorem planT_len (ps : List PutN) : (planT ps).length = 8 * ps.length := by
  induction ps with
  | nil => rfl
  | cons p ps ih =>
    have : planT (p :: ps) = putT p ++ planT ps := by simp [planT]
    rw [this, List.length_append, ih, putT_len, List.length_cons]; omega
/-- A block's own plan. -/
def ownP (s : ByteArray) : List PutN := idle (wKn (blkPuts s))
theorem nPl_len (s : ByteArray) : (blkPuts s).length = nPl s := by simp [blkPuts]
theorem ownP_ok {s : ByteArray} (h : blkOK s) : (∀ p ∈ ownP s, okB p) ∧ (ownP s).length ≤ nPl s := by
  obtain ⟨h1, h2⟩ := wKn_ok (blkPuts_okB h)
  refine ⟨fun p hp => h1 p (idle_mem hp), ?_⟩
  have := idle_len (wKn (blkPuts s))
  rw [h2, nPl_len] at this
  exact this

/-! ### the block at a place -/
/-- How many words the block at a place has, of at most f. -/
def blkN (mem : List Int) : Nat → Nat → Nat
  | 0, _ => 0
  | f + 1, p => if p < 128 then (if plW (mem.getD p 0) = true then blkN mem f (p + 1) + 1 else 1) else 0
def blkW (mem : List Int) (pc n : Nat) : List Nat := (List.range n).map fun j => (mem.getD (pc + j) 0).toNat
def wdsT (ws : List Nat) : List UInt8 := ws.flatMap (numB 4)
theorem blkW_succ (mem : List Int) (pc n : Nat) : blkW mem pc (n + 1) = blkW mem pc n ++ [(mem.getD (pc + n) 0).toNat] := by simp [blkW, List.range_succ]
theorem wdsT_snoc (ws : List Nat) (v : Nat) : wdsT (ws ++ [v]) = wdsT ws ++ numB 4 v := by simp [wdsT]
theorem wdsT_len (ws : List Nat) : (wdsT ws).length = 4 * ws.length := by
  induction ws with
  | nil => rfl
  | cons v ws ih =>
    have : wdsT (v :: ws) = numB 4 v ++ wdsT ws := by simp [wdsT]
    rw [this, List.length_append, ih, numB_len, List.length_cons]; omega
/-- Going on: n words have been taken, all of them plain, and there may be one more. -/
theorem blkN_go (mem : List Int) (pc : Nat) : ∀ (f n : Nat), (∀ j, j < n → plW (mem.getD (pc + j) 0) = true) → n + f = 8 → pc + n ≤ 128 → blkN mem 8 pc = n + blkN mem f (pc + n) := by
  intro f
  induction f with
  | zero =>
    intro n
    have key : ∀ (g m p : Nat), (∀ j, j < m → plW (mem.getD (p + j) 0) = true) → m = g → p + m ≤ 128 → blkN mem g p = m := by
      intro g
      induction g with
      | zero => intro m p _ hm _; rw [hm]; rfl
      | succ g ih =>
        intro m p h hm hp
        rw [blkN, if_pos (by omega), if_pos (by have := h 0 (by omega); simpa using this), ih (m - 1) (p + 1) (fun j hj => by have := h (j + 1) (by omega); rw [show p + 1 + j = p + (j + 1) by omega]; exact this) (by omega) (by omega)]
        omega
    intro h hn hp
    have hn' : n = 8 := by omega
    subst hn'
    rw [key 8 8 pc h rfl hp]
    rfl
  | succ f ih =>
    intro n h hn hp
    by_cases hlt : pc + n < 128
    · by_cases hpl : plW (mem.getD (pc + n) 0) = true
      · have := ih (n + 1) (fun j hj => by
          by_cases hjn : j = n
          · subst hjn; exact hpl
          · exact h j (by omega)) (by omega) (by omega)
        rw [this, blkN, if_pos hlt, if_pos hpl, Nat.add_assoc pc n 1]
        omega
      · have key : ∀ (m g p : Nat), (∀ j, j < m → plW (mem.getD (p + j) 0) = true) → m < g → p + m < 128 → ¬ plW (mem.getD (p + m) 0) = true → blkN mem g p = m + 1 := by
          intro m
          induction m with
          | zero =>
            intro g p _ hg hp hno
            obtain ⟨g, rfl⟩ : ∃ g', g = g' + 1 := ⟨g - 1, by omega⟩
            rw [Nat.add_zero] at hp hno
            rw [blkN, if_pos hp, if_neg hno]
          | succ m ihm =>
            intro g p hj hg hp hno
            obtain ⟨g, rfl⟩ : ∃ g', g = g' + 1 := ⟨g - 1, by omega⟩
            rw [blkN, if_pos (by omega), if_pos (by have := hj 0 (by omega); simpa using this)]
            rw [ihm g (p + 1) (fun j hj' => by have := hj (j + 1) (by omega); rw [show p + 1 + j = p + (j + 1) by omega]; exact this) (by omega) (by omega) (by rw [show p + 1 + m = p + (m + 1) by omega]; exact hno)]
        rw [key n 8 pc h (by omega) hlt hpl, blkN, if_pos hlt, if_neg hpl]
    · have key : ∀ (m g p : Nat), (∀ j, j < m → plW (mem.getD (p + j) 0) = true) → m ≤ g → p + m = 128 → blkN mem g p = m := by
        intro m
        induction m with
        | zero =>
          intro g p _ _ hp
          cases g with
          | zero => rfl
          | succ g => rw [blkN, if_neg (by omega)]
        | succ m ihm =>
          intro g p hj hg hp
          obtain ⟨g, rfl⟩ : ∃ g', g = g' + 1 := ⟨g - 1, by omega⟩
          rw [blkN, if_pos (by omega), if_pos (by have := hj 0 (by omega); simpa using this)]
          rw [ihm g (p + 1) (fun j hj' => by have := hj (j + 1) (by omega); rw [show p + 1 + j = p + (j + 1) by omega]; exact this) (by omega) (by omega)]
      rw [key n 8 pc h (by omega) (by omega), blkN, if_neg hlt]
      omega
def blkTxt (mem : List Int) (pc : Nat) : List UInt8 := wdsT (blkW mem pc (blkN mem 8 pc))
end Go.Proofs.YtmmflekajbeamaaDoor

namespace Go.Proofs.YtmmflekajbeamaaDoor
open Go.RowKit

def u8C (l : List UInt8) : List Value := l.map fun b => .int .u8 (b.toNat : Int)
theorem u8C_app (l m : List UInt8) : u8C (l ++ m) = u8C l ++ u8C m := by simp [u8C]
theorem infoU8 : ∃ i, Tryd.prog.info? 5 = some i ∧ i.zero = some (.int .u8 0) ∧ i.size = 1 ∧ i.bytes = 1 := by
  have h : (Tryd.prog.info? 5).map (fun i => (i.zero, i.size, i.bytes)) = some (some (.int .u8 0), 1, 1) := by kernel_rfl
  cases hq : Tryd.prog.info? 5 with
  | none => rw [hq] at h; cases h
  | some i =>
    rw [hq] at h
    simp only [Option.map_some, Option.some.injEq, Prod.mk.injEq] at h
    exact ⟨i, rfl, h.1, h.2.1, h.2.2⟩
theorem byte_of (v m : Nat) : ((UInt8.ofNat (v / 256 ^ m % 256)).toNat : Int) = ((v / 256 ^ m : Nat) : Int) % 256 := by
  rw [UInt8.toNat_ofNat', Nat.mod_mod]; simp
theorem pow_256 (m : Nat) : 256 ^ m = 2 ^ (8 * m) := by rw [Nat.pow_mul]
/-- A slice of bytes as a string. -/
theorem u8_str {w : World} {B : Nat} {v : Value} {l : List UInt8} (h : w.ownsRow B 5 1 v l.length (u8C l)) : (convert 76 9 v).run Tryd.prog w = .ok (.string (bya l)) w := by
  by_cases h0 : l.length = 0
  · obtain rfl : l = [] := List.length_eq_zero_iff.1 h0
    rcases h.2 with ⟨rfl, _⟩ | ⟨g, cap, cur, rfl, _⟩
    · exact Lib.run_convert_nil_bytes _ _ _ 5 _ Tryd.underlying76 Tryd.underlying5 Tryd.underlying9
    · exact run_convert_bytes_back _ _ _ 5 ⟨g, 0, none⟩ cap [] Tryd.underlying76 Tryd.underlying5 Tryd.underlying9 (fun j hj => by cases hj)
  · obtain ⟨g, cap, rfl, _, hgl⟩ := h.form (by omega)
    refine run_convert_bytes_back _ _ _ 5 ⟨g, 0, none⟩ cap l Tryd.underlying76 Tryd.underlying5 Tryd.underlying9 (fun j hj => ?_)
    have e : (⟨g, 0, none⟩ : Addr).add j = ⟨g, j, none⟩ := by simp [Addr.add]; omega
    rw [e, h.cellAt _ (by omega)]
    simp [u8C, List.getElem?_eq_getElem hj]

set_option maxRecDepth 100000 in
set_option maxHeartbeats 2000000 in
theorem numAppend_any (B : Nat) (bv : Value) (xs : List UInt8) (v k : Nat) (w : World) (hB : B ≤ w.heap.size) (hb : w.ownsRow B 5 1 bv xs.length (u8C xs)) (hx : xs.length ≤ 100000) (hk8 : k ≤ 7) :
    Calls Tryd.prog 109 #[bv, .int .i64 (v : Int), .int .i64 (k : Int)] w fun e' w' => ∃ v', e' = .returned v' ∧ w'.ownsRow B 5 1 v' (xs ++ numB k v).length (u8C (xs ++ numB k v)) ∧ Below B w w' ∧ ∀ g, g < w.heap.size → bv.ownBlock ≠ some g → w'.heap[g]? = w.heap[g]? := by
  obtain ⟨inf, hinf, hz, hsz1, hby⟩ := infoU8
  have HInf := hide hinf; have HZ := hide hz; have HSz := hide hsz1; have HBy := hide hby
  clear hinf hz hsz1 hby
  obtain ⟨ba, bc, rfl⟩ := owns_len hb
  have HO := hide hb
  clear hb
  go_enter Tryd.func109, Tryd.ntmps109
  go_wp2_with fail
  go_loopw [0, 7] (fun x i wr => ∃ (m : Nat) (D : List UInt8), m ≤ k ∧ i = .int .i64 ((m : Int) - 1) ∧ Hid (D ++ numB m v = numB k v) ∧ Hid (wr.ownsRow B 5 1 x (xs ++ D).length (u8C (xs ++ D))) ∧ Hid (Below B w wr) ∧ Hid (∀ g, g < w.heap.size → (Value.slice ba xs.length bc).ownBlock ≠ some g → wr.heap[g]? = w.heap[g]? ∧ x.ownBlock ≠ some g)) (fun _ i _ => ((intOf i) + 1).toNat)
  case atStart => exact ⟨k, [], Nat.le_refl _, rfl, rfl, by rw [List.append_nil]; exact HO.out, Below.refl _ _, fun g _ h => ⟨rfl, h⟩⟩
  case round =>
    obtain ⟨m, D, hm, rfl, HD, HOw, HBl, HKp⟩ := hrel
    obtain ⟨va, vc, hv'⟩ := owns_len HOw.out
    subst hv'
    have hwz := HBl.out.size
    have hDl : D.length + m = k := by have := congrArg List.length HD.out; rw [List.length_append, numB_len, numB_len] at this; exact this
    cases m with
    | zero =>
      have HE : Hid (xs ++ D = xs ++ numB k v) := by unfold Hid; rw [← HD.out]; simp [numB]
      go_wp2_with fail
      go_ret
      refine ⟨_, rfl, ?_, HBl.out, fun g hg hn => (HKp.out g hg hn).1⟩
      rw [← HE.out]
      exact HOw.out
    | succ m =>
      have hi : ((m + 1 : Nat) : Int) - 1 = (m : Int) := by omega
      have HN : Hid ((D ++ [UInt8.ofNat (v / 256 ^ m % 256)]) ++ numB m v = numB k v) := by unfold Hid; rw [← HD.out]; simp [numB]
      have hm7 : (m : Int) < 7 := by omega
      have hlen : (xs ++ D).length + 1 = (xs ++ (D ++ [UInt8.ofNat (v / 256 ^ m % 256)])).length := by simp; omega
      have HL := hide hlen
      have hxl : (xs ++ D).length ≤ 200000 := by rw [List.length_append]; omega
      have HCs : Hid (u8C (xs ++ (D ++ [UInt8.ofNat (v / 256 ^ m % 256)])) = u8C (xs ++ D) ++ [.int .u8 ((v : Int) / 2 ^ (8 * m) % 256)]) := by
        unfold Hid
        rw [← List.append_assoc, u8C_app]
        show _ ++ [Value.int .u8 ((UInt8.ofNat (v / 256 ^ m % 256)).toNat : Int)] = _
        rw [byte_of, pow_256]; simp
      rw [hi]
      clear hi hlen
      generalize (xs ++ D).length = n at *
      go_wp2_with (at_builtin; refine wpList_append_lies _ rfl _ _ 76 rfl B 5 inf _ 1 1 Tryd.underlying76 HInf.out HZ.out HSz.out HBy.out rfl (by decide) (.slice va n vc) n (u8C (xs ++ D)) rfl (HOw.out.alloc _) ⟨wr.heap.size, 0, none⟩ 1 1 [.int .u8 ((v : Int) / 2 ^ (8 * m) % 256)] rfl rfl (World.news_of_block (_root_.Go.heap_alloc_new wr _)) (fun u hu => by simp at hu; subst hu; rfl) (by decide) (by unfold maxLen; omega) (by omega) (by rw [size_alloc1]; omega) (wr.heap.size + 1) (by rw [size_alloc1]) ?_; intro g2' cap2 w3 hown2 hgr2 hat2 hlt2; have HO3 := hide hown2; have HGr := hide hgr2; have HAt := hide hat2; clear hown2 hgr2 hat2)
      refine ⟨⟨m, D ++ [UInt8.ofNat (v / 256 ^ m % 256)], by omega, by go_num, HN.out, ?_, ?_, ?_⟩, by simp [intOf]⟩
      · unfold Hid
        rw [← HL.out, HCs.out]
        exact HO3.out
      · exact (HBl.out.alloc (by omega) _).grown HGr.out (by rw [size_alloc1]; omega) (fun q hq => (row_lt HOw.out q hq).1)
      · intro g hg hn
        obtain ⟨k1, k2⟩ := HKp.out g hg hn
        refine ⟨((HGr.out.block _ (by rw [size_alloc1]; omega) (fun e => k2 e.symm)).trans (Below.heap_alloc wr _ _ (by omega))).trans k1, ?_⟩
        rcases HAt.out with h | h
        · intro e
          apply k2
          rw [h]
          exact e
        · intro e
          have : g2' = g := by simpa [Value.ownBlock] using e
          omega
end Go.Proofs.YtmmflekajbeamaaDoor

namespace Go.Proofs.YtmmflekajbeamaaDoor
open Go.RowKit

theorem planT_take {ps : List PutN} {k : Nat} {p : PutN} (h : ps[k]? = some p) : planT (ps.take (k + 1)) = planT (ps.take k) ++ putT p := by rw [take_snoc' h, planT_snoc]
theorem u8_of (n : Nat) (h : n < 256) : ((UInt8.ofNat n).toNat : Int) = (n : Int) := by
  rw [UInt8.toNat_ofNat']; omega
theorem cell_heap {w w' : World} {g : Nat} (i : Nat) (h : w'.heap[g]? = w.heap[g]?) : w'.cell? ⟨g, i, none⟩ = w.cell? ⟨g, i, none⟩ := by
  unfold World.cell?
  rw [h]
theorem cell_row {w : World} {g : Nat} {c : Array Value} {t : TypeId} (h : w.heap[g]? = some (.cells c t)) (i : Nat) : w.cell? ⟨g, i, none⟩ = c[i]? := by
  unfold World.cell?
  rw [h]; rfl
set_option maxRecDepth 100000 in
set_option maxHeartbeats 2000000 in
theorem planText_any (B : Nat) (pv : Value) (ps : List PutN) (w : World) (ho : w.ownsRow B 59 5 pv ps.length (putCs ps)) (hl : ps.length ≤ 8) (hw : ∀ p ∈ ps, okB p) :
    Calls Tryd.prog 99 #[pv] w fun e' w' => e' = .returned (.string (bya (planT ps))) ∧ Below w.heap.size w w' := by
  obtain ⟨inf, hinf, hz, hsz1, hby⟩ := infoU8
  have HInf := hide hinf; have HZ := hide hz; have HSz := hide hsz1; have HBy := hide hby
  clear hinf hz hsz1 hby
  obtain ⟨fa', fc', rfl⟩ := owns_len ho
  have HF := hide ho; have HW := hide hw
  have hl' : (ps.length : Int) ≤ 8 := by omega
  clear ho hw
  go_enter Tryd.func99, Tryd.ntmps99
  go_wp2_with fail
  go_loopw [3, 8] (fun v i wr => ∃ k : Nat, k ≤ ps.length ∧ i = .int .i64 k ∧ wr.ownsRow w.heap.size 5 1 v (planT (ps.take k)).length (u8C (planT (ps.take k))) ∧ Below w.heap.size w wr) (fun _ i _ => ps.length - (intOf i).toNat)
  case atStart => exact ⟨0, Nat.zero_le _, rfl, World.ownsRow_nil _ _ _ _, Below.refl _ _⟩
  case round =>
    obtain ⟨k, hk, rfl, hown, hbl⟩ := hrel
    obtain ⟨va, vc, hv⟩ := owns_len hown
    have HO := hide hown; have HBl := hide hbl
    have hwz := hbl.size
    have hTl : (planT (ps.take k)).length ≤ 64 := by rw [planT_len, List.length_take]; omega
    by_cases hlt : k < ps.length
    · have hlt' : (k : Int) < (ps.length : Int) := by omega
      obtain ⟨g, cap, hform, _, hgl⟩ := HF.out.form (by omega)
      cases hform
      have hx : ps[k]? = some ps[k] := List.getElem?_eq_getElem hlt
      have hok := HW.out ps[k] (List.getElem_mem _)
      obtain ⟨x0, x1, x2, x3, x4⟩ := put_cells (own_grow HF.out hbl) k ps[k] hx
      have HS := hide (planT_take hx)
      generalize ps[k] = p at *
      obtain ⟨p0, p1, p2, p3, p4⟩ := p
      obtain ⟨q1, q2, q3, q4, q5, q6, _⟩ := hok
      simp only at q1 q2 q3 q4 q5 q6 x0 x1 x2 x3 x4
      subst hv
      have q0' : (p0 : Int) < 256 := by omega
      have q1' : (p1 : Int) < 256 := by omega
      have q2' : (p2 : Int) < 256 := by omega
      have q3' : (p3 : Int) < 256 := by omega
      have HC4 : Hid (u8C (planT (ps.take k)) ++ [.int .u8 (p0 : Int), .int .u8 (p1 : Int), .int .u8 (p2 : Int), .int .u8 (p3 : Int)] = u8C (planT (ps.take k) ++ [UInt8.ofNat p0, UInt8.ofNat p1, UInt8.ofNat p2, UInt8.ofNat p3])) := by
        unfold Hid
        rw [u8C_app]
        simp only [u8C, List.map_cons, List.map_nil, u8_of p0 (by omega), u8_of p1 (by omega), u8_of p2 (by omega), u8_of p3 (by omega)]
      have HE : Hid (planT (ps.take (k + 1)) = (planT (ps.take k) ++ [UInt8.ofNat p0, UInt8.ofNat p1, UInt8.ofNat p2, UInt8.ofNat p3]) ++ numB 4 p4) := by
        unfold Hid
        rw [HS.out]
        simp [putT]
      have HL4 : Hid ((planT (ps.take k)).length + 4 = (planT (ps.take k) ++ [UInt8.ofNat p0, UInt8.ofNat p1, UInt8.ofNat p2, UInt8.ofNat p3]).length) := by unfold Hid; simp
      have HO' := hide (own_grow hown ((Below.refl _ _).alloc (Nat.le_refl _) (.cells #[.int .i64 (p0 : Int), .int .i64 (p1 : Int), .int .i64 (p2 : Int), .int .i64 (p3 : Int), .int .i64 (p4 : Int)] 59)))
      have HC : Hid (∀ w3, ((wr.alloc (.cells #[.int .i64 (p0 : Int), .int .i64 (p1 : Int), .int .i64 (p2 : Int), .int .i64 (p3 : Int), .int .i64 (p4 : Int)] 59)).alloc (.cells #[.int .u8 (p0 : Int), .int .u8 (p1 : Int), .int .u8 (p2 : Int), .int .u8 (p3 : Int)] 5)).grownBy w3 (Value.slice va (planT (ps.take k)).length vc).ownBlock → w3.cell? ⟨wr.heap.size, 4, none⟩ = some (.int .i64 (p4 : Int))) := fun w3 hg => by
        have hne : some wr.heap.size ≠ (Value.slice va (planT (ps.take k)).length vc).ownBlock := fun e => by have := (row_lt hown _ e.symm).2; omega
        rw [cell_heap 4 ((hg.block wr.heap.size (by rw [size_alloc1, size_alloc1]; omega) hne).trans (Below.heap_alloc _ _ _ (by rw [size_alloc1]; omega))), cell_row (_root_.Go.heap_alloc_new wr _)]
        rfl
      generalize planT (ps.take k) = T at *
      generalize T.length = n at *
      clear hown hbl HS hx
      go_wp2_with (at_builtin; refine wpList_append_lies _ rfl _ _ 76 rfl w.heap.size 5 inf _ 1 1 Tryd.underlying76 HInf.out HZ.out HSz.out HBy.out rfl (by decide) (.slice va n vc) n (u8C T) rfl (HO'.out.alloc _) ⟨wr.heap.size + 1, 0, none⟩ 4 4 [.int .u8 (p0 : Int), .int .u8 (p1 : Int), .int .u8 (p2 : Int), .int .u8 (p3 : Int)] rfl rfl (World.news_of_block (by rw [← size_alloc1]; exact _root_.Go.heap_alloc_new _ _)) (fun u hu => by simp at hu; rcases hu with rfl | rfl | rfl | rfl <;> rfl) (by decide) (by unfold maxLen; omega) (by omega) (by rw [size_alloc1, size_alloc1]; omega) (wr.heap.size + 1 + 1) (by rw [size_alloc1, size_alloc1]) ?_; intro g2' cap2 w3 hown2 hgr2 hat2 hlt2; have HO3 := hide hown2; have HGr := hide hgr2; have c4 := HC.out w3 hgr2; clear hown2 hgr2 hat2)
      have hz3 : wr.heap.size + 1 + 1 ≤ w3.heap.size := by have := HGr.out.size; rw [size_alloc1, size_alloc1] at this; exact this
      rw [HC4.out] at HO3
      rw [HL4.out] at HO3
      have HAp := hide (numAppend_any w.heap.size _ _ p4 4 w3 (by omega) HO3.out (by rw [← HL4.out]; omega) (by decide))
      rw [← HL4.out] at HAp
      have HB3 : Hid (Below w.heap.size w w3) := ((HBl.out.alloc hwz _).alloc (by rw [size_alloc1]; omega) _).grown HGr.out (by rw [size_alloc1, size_alloc1]; omega) (fun q hq => (row_lt HO'.out q hq).1)
      clear HO3 HGr
      refine (unhide HAp).mono ?_
      rintro e w4 ⟨v', rfl, b1, b2, b3⟩
      have HO4 := hide b1
      have HB4 : Hid (Below w.heap.size w w4) := HB3.out.trans b2
      clear b1 b2 b3
      go_wp2_with fail
      refine ⟨⟨k + 1, by omega, by go_num, ?_, HB4.out⟩, by simp [intOf]; omega⟩
      rw [HE.out]
      exact HO4.out
    · have hlt' : ¬ (k : Int) < (ps.length : Int) := by omega
      have hkn : k = ps.length := by omega
      subst hkn
      rw [List.take_length] at HO hv
      have kc := u8_str HO.out
      subst hv
      clear hown hbl
      go_wp2_with fail
      go_ret
      exact ⟨rfl, HBl.out⟩

def putZ (p : PutN) : List Int := [(p.kind : Int), (p.d : Int), (p.a : Int), (p.b : Int), (p.k : Int)]
/-- The last puts, as cells. -/
def lastZ (l : List PutN) : List Int := l.flatMap putZ
theorem lastZ_len (l : List PutN) : (lastZ l).length = l.length * 5 := by
  induction l with
  | nil => rfl
  | cons p l ih => simp [lastZ, putZ] at *; omega
theorem flat_atG {α β : Type} (f : α → List β) (m : Nat) (hf : ∀ a, (f a).length = m) : ∀ (l : List α) (k : Nat) (x : α), l[k]? = some x → ∀ j, j < m → (l.flatMap f)[k * m + j]? = (f x)[j]? := by
  intro l
  induction l with
  | nil => intro k x hk; simp at hk
  | cons a l ih =>
    intro k x hk j hj
    rw [List.flatMap_cons]
    match k, hk with
    | 0, hk =>
      simp at hk
      subst hk
      rw [Nat.zero_mul, Nat.zero_add, List.getElem?_append_left (by rw [hf]; exact hj)]
    | k + 1, hk =>
      rw [List.getElem?_append_right (by rw [hf, Nat.succ_mul]; omega), hf, show (k + 1) * m + j - m = k * m + j by rw [Nat.succ_mul]; omega]
      exact ih k x (by simpa using hk) j hj
theorem lastZ_get (l : List PutN) (r : Nat) (hr : r < l.length) (j : Nat) (hj : j < 5) : gz (lastZ l) (r * 5 + j) = (putZ (l.getD r zPut)).getD j 0 := by
  have hx : l[r]? = some (l.getD r zPut) := by rw [List.getD_eq_getElem?_getD, List.getElem?_eq_getElem hr]; rfl
  have := flat_atG putZ 5 (fun _ => rfl) l r (l.getD r zPut) hx j hj
  unfold gz lastZ
  rw [List.getD_eq_getElem?_getD (l := l.flatMap putZ), this, ← List.getD_eq_getElem?_getD]
theorem size190 : (Tryd.prog.info? 190).map (·.size) = some 40 := by kernel_rfl
theorem zero190 (w : World) : (zeroValue 190).run Tryd.prog w = .ok (.agg (S (lastZ (List.replicate 8 zPut)))) w := by kernel_rfl
end Go.Proofs.YtmmflekajbeamaaDoor
