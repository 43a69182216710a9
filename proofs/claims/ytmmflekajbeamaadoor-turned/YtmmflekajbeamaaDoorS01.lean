/-
  Plain mathematics of the machine's step (no program in sight but the laws on blocks of cells): the fields of a word, which words are instructions, what a step makes of a state's 138 numbers; how such a state lies in memory.
  Plans, as plain mathematics: the puts that a text's bytes tell, the words of a block, what a plan does; expressions as texts (the document's way), and tables that hold each expression once: that a number in the table tells the text, and the text the number.
-/
import Derived.WalkKit
import Derived.WalkSpells
import Derived.WalkLawsBesides
import Derived.Deep.WholeRow
namespace Go.Proofs.YtmmflekajbeamaaDoor
open Go.RowKit

theorem hide {p : Prop} (h : p) : Hid p := h
theorem unhide {p : Prop} (h : Hid p) : p := h

/-! ### words -/
def fop (v : Int) : Int := v / 16777216 % 256
def fa (v : Int) : Int := v / 1048576 % 16
def fb (v : Int) : Int := v / 65536 % 16
def fc (v : Int) : Int := v / 4096 % 16
def fk (v : Int) : Int := v % 4096
theorem fop_bd (v : Int) : 0 ≤ fop v ∧ fop v < 256 := by unfold fop; omega
theorem fa_bd (v : Int) : 0 ≤ fa v ∧ fa v < 16 := by unfold fa; omega
theorem fb_bd (v : Int) : 0 ≤ fb v ∧ fb v < 16 := by unfold fb; omega
theorem fc_bd (v : Int) : 0 ≤ fc v ∧ fc v < 16 := by unfold fc; omega
theorem fk_bd (v : Int) : 0 ≤ fk v ∧ fk v < 4096 := by unfold fk; omega

theorem and_mask (n : Int) (k : Nat) (m : Int) (hm : (BitVec.ofInt 64 m).toNat = 2 ^ k - 1) (h0 : 0 ≤ n) (h1 : n < 4294967296) : bits .and .i64 n m = n % (2 ^ k : Nat) := by
  have key : (BitVec.ofInt 64 n &&& BitVec.ofInt 64 m).toNat = (n % ((2 ^ 64 : Nat) : Int)).toNat % 2 ^ k := by
    rw [BitVec.toNat_and, BitVec.toNat_ofInt, hm, Nat.and_two_pow_sub_one_eq_mod]
  show IntKind.i64.wrap ((BitVec.ofInt 64 n &&& BitVec.ofInt 64 m).toNat : Nat) = n % (2 ^ k : Nat)
  obtain ⟨N, rfl⟩ := Int.eq_ofNat_of_zero_le h0
  have e : (N : Int) % ((2 ^ 64 : Nat) : Int) = (N : Int) := by omega
  rw [key, e, IntKind.wrap_i64, Int.toNat_natCast, ← Int.natCast_emod]
  have hlt : N % 2 ^ k ≤ N := Nat.mod_le _ _
  omega
theorem and255 (n : Int) (h0 : 0 ≤ n) (h1 : n < 4294967296) : bits .and .i64 n 255 = n % 256 := and_mask n 8 255 (by decide) h0 h1
theorem and15 (n : Int) (h0 : 0 ≤ n) (h1 : n < 4294967296) : bits .and .i64 n 15 = n % 16 := and_mask n 4 15 (by decide) h0 h1
theorem and4095 (n : Int) (h0 : 0 ≤ n) (h1 : n < 4294967296) : bits .and .i64 n 4095 = n % 4096 := and_mask n 12 4095 (by decide) h0 h1

/-- x xor y, of two words. -/
def xorZ (x y : Int) : Int := ((x.toNat ^^^ y.toNat : Nat) : Int)
theorem xorZ_bd (x y : Int) (hx0 : 0 ≤ x) (hx1 : x < 4294967296) (hy0 : 0 ≤ y) (hy1 : y < 4294967296) : 0 ≤ xorZ x y ∧ xorZ x y < 4294967296 := by
  have h : x.toNat ^^^ y.toNat < 2 ^ 32 := Nat.xor_lt_two_pow (by omega) (by omega)
  unfold xorZ; omega
theorem xor_i64 (x y : Int) (hx0 : 0 ≤ x) (hx1 : x < 4294967296) (hy0 : 0 ≤ y) (hy1 : y < 4294967296) : bits .xor .i64 x y = xorZ x y := by
  obtain ⟨a, rfl⟩ := Int.eq_ofNat_of_zero_le hx0
  obtain ⟨b, rfl⟩ := Int.eq_ofNat_of_zero_le hy0
  have hx : a ^^^ b < 2 ^ 32 := Nat.xor_lt_two_pow (by omega) (by omega)
  have h1 : (BitVec.ofInt 64 (a : Int)).toNat = a := by
    rw [BitVec.ofInt_natCast, BitVec.toNat_ofNat]; exact Nat.mod_eq_of_lt (by omega)
  have h2 : (BitVec.ofInt 64 (b : Int)).toNat = b := by
    rw [BitVec.ofInt_natCast, BitVec.toNat_ofNat]; exact Nat.mod_eq_of_lt (by omega)
  show IntKind.i64.wrap ((BitVec.ofInt 64 (a : Int) ^^^ BitVec.ofInt 64 (b : Int)).toNat : Int) = _
  rw [BitVec.toNat_xor, h1, h2, IntKind.wrap_i64]
  unfold xorZ
  simp only [Int.toNat_natCast]
  omega
theorem xor_u32 (x y : Int) (hx0 : 0 ≤ x) (hx1 : x < 4294967296) (hy0 : 0 ≤ y) (hy1 : y < 4294967296) : bits .xor .u32 x y = xorZ x y := u32_xor x y hx0 hx1 hy0 hy1

/-- What an op of two words gives. -/
def wk (op x y : Int) : Int := if op = 2 then (x + y) % 4294967296 else if op = 3 then (x + 4294967296 - y) % 4294967296 else if op = 4 then xorZ x y else (x * y) % 4294967296

theorem mul_halves (x y : Int) : (x / 65536 * y % 65536 * 65536 + x % 65536 * y) % 4294967296 = x * y % 4294967296 := by
  have e : x * y = (x / 65536 * y) * 65536 + x % 65536 * y := by
    have := Int.mul_ediv_add_emod x 65536
    conv => lhs; rw [← this]
    rw [Int.add_mul, Int.mul_assoc, Int.mul_comm 65536]
  rw [e]
  generalize x / 65536 * y = p
  generalize x % 65536 * y = q
  omega
theorem half_bd (x y : Int) (hx0 : 0 ≤ x) (hx1 : x < 4294967296) (hy0 : 0 ≤ y) (hy1 : y < 4294967296) : 0 ≤ x / 65536 * y ∧ x / 65536 * y ≤ 65535 * 4294967295 ∧ 0 ≤ x % 65536 * y ∧ x % 65536 * y ≤ 65535 * 4294967295 := by
  refine ⟨Int.mul_nonneg (by omega) hy0, Int.mul_le_mul (by omega) (by omega) hy0 (by omega), Int.mul_nonneg (by omega) hy0, Int.mul_le_mul (by omega) (by omega) hy0 (by omega)⟩

/-- Is a word with these fields an instruction? -/
def knB (op a b c : Int) : Bool :=
  if op = 0 ∨ op = 9 then true else if op = 1 ∨ op = 10 then decide (a < 8) else if 2 ≤ op ∧ op ≤ 5 then decide (a < 8 ∧ b < 8 ∧ c < 8)
  else if op = 6 ∨ op = 7 ∨ op = 8 then decide (a < 8 ∧ b < 8) else false
/-- Is it a plain one? -/
def plB (op a b c : Int) : Bool :=
  if op = 1 then decide (a < 8) else if 2 ≤ op ∧ op ≤ 5 then decide (a < 8 ∧ b < 8 ∧ c < 8) else if op = 6 then decide (a < 8 ∧ b < 8) else false

theorem kn_pl (op a b c : Int) (h0 : op ≠ 0) (h7 : op ≠ 7) (h8 : op ≠ 8) (h9 : op ≠ 9) (h10 : op ≠ 10) : plB op a b c = knB op a b c := by
  simp [plB, knB, h0, h7, h8, h9, h10]

/-! ### a state's 138 numbers: the registers from 0 on, the memory from 8 on, Pc 136, Stop 137 -/
def gz (z : List Int) (i : Nat) : Int := z.getD i 0
def isW (v : Int) : Bool := decide (0 ≤ v ∧ v < 4294967296)
def regsB (z : List Int) : Bool := (List.range 8).all fun i => isW (gz z i)
def memB (z : List Int) : Bool := (List.range 128).all fun i => isW (gz z (8 + i))
def pcB (z : List Int) : Bool := decide (0 ≤ gz z 136 ∧ gz z 136 < 128 ∧ 0 ≤ gz z 137 ∧ gz z 137 ≤ 2)
/-- Is it a state? -/
def stB (z : List Int) : Bool := regsB z && memB z && pcB z
/-- What an instruction makes of it. -/
def nxt (z : List Int) (op a b c k : Int) : List Int :=
  if op = 0 then z.set 137 1
  else if op = 1 then (z.set a.toNat k).set 136 ((gz z 136 + 1) % 128)
  else if 2 ≤ op ∧ op ≤ 5 then (z.set a.toNat (wk op (gz z b.toNat) (gz z c.toNat))).set 136 ((gz z 136 + 1) % 128)
  else if op = 6 then (z.set a.toNat (gz z (8 + ((gz z b.toNat + k) % 128).toNat))).set 136 ((gz z 136 + 1) % 128)
  else if op = 7 then (z.set (8 + ((gz z b.toNat + k) % 128).toNat) (gz z a.toNat)).set 136 ((gz z 136 + 1) % 128)
  else if op = 8 then z.set 136 (if gz z a.toNat = gz z b.toNat then k % 128 else (gz z 136 + 1) % 128)
  else if op = 9 then z.set 136 (k % 128)
  else z.set 136 (gz z a.toNat % 128)
def zeroZ : List Int := List.replicate 138 0
/-- The word at Pc. -/
def wordZ (z : List Int) : Int := gz z (8 + (gz z 136).toNat)
def knZ (z : List Int) : Bool := knB (fop (wordZ z)) (fa (wordZ z)) (fb (wordZ z)) (fc (wordZ z))
def stp (z : List Int) : List Int × Int :=
  if stB z = false then (zeroZ, 8) else if gz z 137 ≠ 0 then (zeroZ, 9)
  else if knZ z = false then (z.set 137 2, 0)
  else (nxt z (fop (wordZ z)) (fa (wordZ z)) (fb (wordZ z)) (fc (wordZ z)) (fk (wordZ z)), 0)

theorem isW_iff (v : Int) : isW v = true ↔ 0 ≤ v ∧ v < 4294967296 := by simp [isW]
theorem stB_reg {z : List Int} (h : stB z = true) (i : Nat) (hi : i < 136) : 0 ≤ gz z i ∧ gz z i < 4294967296 := by
  simp only [stB, Bool.and_eq_true, regsB, memB, List.all_eq_true, List.mem_range] at h
  by_cases h8 : i < 8
  · exact (isW_iff _).1 (h.1.1 i h8)
  · have := h.1.2 (i - 8) (by omega)
    rw [show 8 + (i - 8) = i by omega] at this
    exact (isW_iff _).1 this
theorem stB_pc {z : List Int} (h : stB z = true) : 0 ≤ gz z 136 ∧ gz z 136 < 128 ∧ 0 ≤ gz z 137 ∧ gz z 137 ≤ 2 := by
  simp only [stB, Bool.and_eq_true, pcB, decide_eq_true_eq] at h
  exact h.2
/-- The first n of f are words. -/
def allW (f : Nat → Int) (n : Nat) : Bool := (List.range n).all fun i => isW (f i)
theorem allW_zero (f : Nat → Int) : allW f 0 = true := rfl
theorem allW_succ (f : Nat → Int) (n : Nat) : allW f (n + 1) = (allW f n && isW (f n)) := by
  simp [allW, List.range_succ, List.all_append]
theorem allW_false (f : Nat → Int) (n j : Nat) (hj : j < n) (h : isW (f j) = false) : allW f n = false := by
  rw [allW, List.all_eq_false]
  exact ⟨j, by simpa using hj, by simp [h]⟩

theorem set_same (z : List Int) (hl : z.length = 138) : (z.set 137 1).set 136 (gz z 136) = z.set 137 1 := by
  apply List.ext_getElem?
  intro i
  by_cases h : i = 136
  · subst h; simp [hl, gz]
  · have h' : ¬ 136 = i := fun e => h e.symm
    simp [List.getElem?_set, h']

/-! ### how it lies in memory -/
def S (z : List Int) : Array Value := (z.map (Value.int .i64)).toArray
theorem S_size (z : List Int) : (S z).size = z.length := by simp [S]
theorem S_get (z : List Int) (i : Nat) (h : i < z.length) : (S z)[i]? = some (.int .i64 (gz z i)) := by
  simp [S, gz, h]
theorem S_set (z : List Int) (i : Nat) (v : Int) : (S z).setIfInBounds i (.int .i64 v) = S (z.set i v) := by
  simp [S]
theorem S_one (z : List Int) : (S z).all (·.oneCell') = true := by
  rw [Array.all_eq_true_iff_forall_mem]
  intro x hx
  simp [S] at hx
  obtain ⟨a, _, rfl⟩ := hx
  rfl

/-- A block's cells; none: no cells. -/
def rowD (w : World) (n : Nat) : Array Value := match w.heap[n]? with | some (.cells c _ _) => c | _ => #[]
/-- Is the block a row of k cells, all of which may be written? -/
def isRowB (w : World) (n k : Nat) : Bool := match w.heap[n]? with | some (.cells c _ fr) => c.size == k && fr == (0, 0) | _ => false

theorem rowD_alloc_at (w : World) (c : Array Value) (t : TypeId) (n : Nat) (hn : n = w.heap.size) : rowD (w.alloc (.cells c t)) n = c := by
  subst hn; unfold rowD; rw [_root_.Go.heap_alloc_new]
theorem rowD_alloc_past (w : World) (o : Obj) (n : Nat) (hn : n < w.heap.size) : rowD (w.alloc o) n = rowD w n := by
  unfold rowD; rw [Below.heap_alloc w o n hn]
theorem rowD_drew (w : World) (n : Nat) : rowD w.drew n = rowD w n := rfl
theorem isRowB_alloc_at (w : World) (c : Array Value) (t : TypeId) (n k : Nat) (hn : n = w.heap.size) : isRowB (w.alloc (.cells c t)) n k = (c.size == k) := by
  subst hn; unfold isRowB; rw [_root_.Go.heap_alloc_new]; simp
theorem isRowB_alloc_past (w : World) (o : Obj) (n k : Nat) (hn : n < w.heap.size) : isRowB (w.alloc o) n k = isRowB w n k := by
  unfold isRowB; rw [Below.heap_alloc w o n hn]
theorem isRowB_drew (w : World) (n k : Nat) : isRowB w.drew n k = isRowB w n k := rfl

theorem setRow_alloc_at (w : World) (c c' : Array Value) (t : TypeId) (n : Nat) (hn : n = w.heap.size) : (w.alloc (.cells c t)).setRow n c' = w.alloc (.cells c' t) := by
  subst hn; exact World.setRow_alloc_new w c c' t
theorem setRow_alloc_past (w : World) (o : Obj) (n : Nat) (c' : Array Value) (hn : n < w.heap.size) : (w.alloc o).setRow n c' = (w.setRow n c').alloc o := by
  simp only [World.setRow, World.alloc]
  congr 1
  apply Array.ext_getElem?
  intro i
  rw [Array.getElem?_modify]
  simp only [Array.getElem?_push, Array.size_modify, Array.getElem?_modify]
  by_cases h : i = w.heap.size
  · subst h; simp; intro e; omega
  · simp [h]
theorem setRow_drew (w : World) (n : Nat) (c' : Array Value) : w.drew.setRow n c' = (w.setRow n c').drew := rfl

theorem load_rowD {P : Program} {ty : TypeId} {k : Nat} {d : TypeDesc} (hu : P.underlying ty = some d) (hd : (match d with | .struct _ | .array _ _ => true | _ => false) = true) (hi : (P.info? ty).map (·.size) = some k)
    (w : World) (n : Nat) (h : isRowB w n k = true) :
    (Instr.loadAt ty (.pointer (some ⟨n, 0, none⟩))).run P w = .ok (.agg (rowD w n)) w := by
  unfold isRowB at h
  unfold rowD
  cases hg : w.heap[n]? with
  | none => rw [hg] at h; cases h
  | some o =>
    cases o with
    | cells c t fr =>
      rw [hg] at h
      simp only [Bool.and_eq_true, beq_iff_eq] at h
      simp only [Instr.loadAt, Instr.sureAddr, Sem.run_bind, Sem.run_pure, Result.andThen_ok]
      exact run_loadVar_row w n t ty c fr d hg hu hd (by rw [hi, h.1])
    | _ => rw [hg] at h; cases h

theorem store_rowD {P : Program} {ty : TypeId} {k : Nat} (hi : (P.info? ty).map (·.size) = some k) (w : World) (n : Nat) (c' : Array Value) (h : isRowB w n k = true) (hs : c'.size = k) (h1 : c'.all (·.oneCell') = true) :
    (Instr.storeAt ty (.pointer (some ⟨n, 0, none⟩)) (.agg c')).run P w = .ok () (w.setRow n c') := by
  unfold isRowB at h
  cases hg : w.heap[n]? with
  | none => rw [hg] at h; cases h
  | some o =>
    cases o with
    | cells c t fr =>
      rw [hg] at h
      simp only [Bool.and_eq_true, beq_iff_eq] at h
      obtain ⟨h2, rfl⟩ := h
      simp only [Instr.storeAt, Instr.sureAddr, Sem.run_bind, Sem.run_pure, Result.andThen_ok]
      exact run_storeVar_row w n t ty c c' hg (by rw [hi, hs]) (by omega) h1
    | _ => rw [hg] at h; cases h

/-! ### a word's fields by halving -/
def shr (v : Int) (p : Nat) : Int := v / ((2 ^ p : Nat) : Int)
def pw (n : Nat) : Int := ((2 ^ n : Nat) : Int)
theorem shr_zero (v : Int) : shr v 0 = v := by simp [shr]
theorem shr_succ (v : Int) (p : Nat) : shr v (p + 1) = shr v p / 2 := by
  unfold shr
  rw [Nat.pow_succ, Int.natCast_mul, Int.ediv_ediv_of_nonneg (Int.natCast_nonneg _)]
  rfl
theorem shr_bd (v : Int) (p : Nat) (h0 : 0 ≤ v) (h1 : v < 4294967296) : 0 ≤ shr v p ∧ shr v p < 4294967296 := by
  unfold shr
  have hp : 0 < 2 ^ p := Nat.pow_pos (by decide)
  generalize 2 ^ p = q at hp ⊢
  refine ⟨Int.ediv_nonneg h0 (by omega), Int.lt_of_le_of_lt (Int.ediv_le_self _ h0) h1⟩
theorem pw_succ (n : Nat) : pw (n + 1) = pw n * 2 := by unfold pw; rw [Nat.pow_succ]; omega
theorem pw_bd (n : Nat) (h : n ≤ 12) : 1 ≤ pw n ∧ pw n ≤ 4096 := by
  unfold pw
  have h1 : 1 ≤ 2 ^ n := Nat.pow_pos (by decide)
  have h2 : 2 ^ n ≤ 2 ^ 12 := Nat.pow_le_pow_right (by decide) h
  omega
end Go.Proofs.YtmmflekajbeamaaDoor

namespace Go.Proofs.YtmmflekajbeamaaDoor

/-! ### numbers in bytes, the highest first -/
def beN (s : ByteArray) (i : Nat) : Nat → Nat
  | 0 => 0
  | k + 1 => beN s i k * 256 + (s.get! (i + k)).toNat
theorem beN_lt (s : ByteArray) (i k : Nat) : beN s i k < 256 ^ k := by
  induction k with
  | zero => simp [beN]
  | succ k ih =>
    have := (s.get! (i + k)).toNat_lt
    rw [beN, Nat.pow_succ]
    omega
def numB : Nat → Nat → List UInt8
  | 0, _ => []
  | k + 1, v => UInt8.ofNat (v / 256 ^ k % 256) :: numB k v
theorem numB_len (k v : Nat) : (numB k v).length = k := by
  induction k with
  | zero => rfl
  | succ k ih => rw [numB, List.length_cons, ih]
theorem ofNat_inj {a b : Nat} (ha : a < 256) (hb : b < 256) (h : UInt8.ofNat a = UInt8.ofNat b) : a = b := by
  have := congrArg UInt8.toNat h
  rw [UInt8.toNat_ofNat', UInt8.toNat_ofNat'] at this
  omega
theorem numB_inj (k v v' : Nat) (h : numB k v = numB k v') : v % 256 ^ k = v' % 256 ^ k := by
  induction k with
  | zero => simp [Nat.mod_one]
  | succ k ih =>
    rw [numB, numB, List.cons.injEq] at h
    have h1 := ofNat_inj (Nat.mod_lt _ (by decide)) (Nat.mod_lt _ (by decide)) h.1
    have h2 := ih h.2
    rw [Nat.pow_succ, Nat.mod_mul, Nat.mod_mul, h1, h2]
theorem numB_inj4 {v v' : Nat} (hv : v < 4294967296) (hv' : v' < 4294967296) (h : numB 4 v = numB 4 v') : v = v' := by
  have := numB_inj 4 v v' h
  omega

/-! ### puts -/
structure PutN where
  kind : Nat
  d : Nat
  a : Nat
  b : Nat
  k : Nat
def putAt (s : ByteArray) (i : Nat) : PutN := ⟨(s.get! i).toNat, (s.get! (i + 1)).toNat, (s.get! (i + 2)).toNat, (s.get! (i + 3)).toNat, beN s (i + 4) 4⟩
def okPut (p : PutN) : Prop := p.d < 16 ∧ p.a < 16 ∧ p.b < 16 ∧ ((p.kind = 1 ∧ p.a = 0 ∧ p.b = 0) ∨ (2 ≤ p.kind ∧ p.kind ≤ 5 ∧ p.k = 0) ∨ (p.kind = 6 ∧ p.b = 0 ∧ p.k ≤ 4095) ∨ (p.kind = 7 ∧ p.b = 0 ∧ p.k = 0))
def okDec (p : PutN) : Decidable (okPut p) := by unfold okPut; exact inferInstance
def putL (s : ByteArray) (n : Nat) : List PutN := (List.range n).map fun j => putAt s (8 * j)
theorem putL_len (s : ByteArray) (n : Nat) : (putL s n).length = n := by simp [putL]
theorem putL_succ (s : ByteArray) (n : Nat) : putL s (n + 1) = putL s n ++ [putAt s (8 * n)] := by simp [putL, List.range_succ]
def putsOK (s : ByteArray) : Prop := s.size % 8 = 0 ∧ s.size ≤ 80 ∧ ∀ j, j < s.size / 8 → okPut (putAt s (8 * j))
theorem putAt_bd (s : ByteArray) (i : Nat) : (putAt s i).kind < 256 ∧ (putAt s i).d < 256 ∧ (putAt s i).a < 256 ∧ (putAt s i).b < 256 ∧ (putAt s i).k < 4294967296 := by
  have h := beN_lt s (i + 4) 4
  exact ⟨UInt8.toNat_lt _, UInt8.toNat_lt _, UInt8.toNat_lt _, UInt8.toNat_lt _, h⟩
theorem putL_ok {s : ByteArray} (h : putsOK s) : ∀ p ∈ putL s (s.size / 8), okPut p ∧ p.k < 4294967296 := by
  intro p hp
  obtain ⟨j, hj, rfl⟩ := List.mem_map.1 hp
  exact ⟨h.2.2 j (List.mem_range.1 hj), (putAt_bd s _).2.2.2.2⟩

/-! ### the words of a block -/
def plW (v : Int) : Bool := plB (fop v) (fa v) (fb v) (fc v)
def wdAt (s : ByteArray) (j : Nat) : Nat := beN s (4 * j) 4
theorem wdAt_lt (s : ByteArray) (j : Nat) : wdAt s j < 4294967296 := beN_lt s (4 * j) 4
def blkOK (s : ByteArray) : Prop := 4 ≤ s.size ∧ s.size ≤ 32 ∧ s.size % 4 = 0 ∧ ∀ j, j + 1 < s.size / 4 → plW (wdAt s j) = true
/-- How many plain words a block has. -/
def nPl (s : ByteArray) : Nat := if plW (wdAt s (s.size / 4 - 1)) = true then s.size / 4 else s.size / 4 - 1
def putW (v : Int) : PutN :=
  if fop v = 1 then ⟨1, (fa v).toNat, 0, 0, (fk v).toNat⟩ else if fop v = 6 then ⟨6, (fa v).toNat, (fb v).toNat, 0, (fk v).toNat⟩ else ⟨(fop v).toNat, (fa v).toNat, (fb v).toNat, (fc v).toNat, 0⟩
def blkPuts (s : ByteArray) : List PutN := (List.range (nPl s)).map fun j => putW (wdAt s j)
theorem plB_cases {op a b c : Int} (h : plB op a b c = true) : a < 8 ∧ (op = 1 ∨ (2 ≤ op ∧ op ≤ 5 ∧ b < 8 ∧ c < 8) ∨ (op = 6 ∧ b < 8)) := by
  unfold plB at h
  split at h
  · simp at h; omega
  · split at h
    · simp at h; omega
    · split at h
      · simp at h; omega
      · cases h
theorem putW_ok {v : Int} (h : plW v = true) : okPut (putW v) ∧ (putW v).d < 8 ∧ (putW v).a < 8 ∧ (putW v).b < 8 ∧ (putW v).k < 4096 ∧ 1 ≤ (putW v).kind ∧ (putW v).kind ≤ 6 := by
  obtain ⟨h1, h2⟩ := plB_cases h
  have b1 := fa_bd v; have b2 := fb_bd v; have b3 := fc_bd v; have b4 := fk_bd v; have b5 := fop_bd v
  unfold putW
  split
  · exact ⟨⟨by dsimp only; omega, by dsimp only; omega, by dsimp only; omega, .inl ⟨rfl, rfl, rfl⟩⟩, by dsimp only; omega, by dsimp only; omega, by dsimp only; omega, by dsimp only; omega, by dsimp only; omega, by dsimp only; omega⟩
  · split
    · exact ⟨⟨by dsimp only; omega, by dsimp only; omega, by dsimp only; omega, .inr (.inr (.inl ⟨rfl, rfl, by dsimp only; omega⟩))⟩, by dsimp only; omega, by dsimp only; omega, by dsimp only; omega, by dsimp only; omega, by dsimp only; omega, by dsimp only; omega⟩
    · exact ⟨⟨by dsimp only; omega, by dsimp only; omega, by dsimp only; omega, .inr (.inl ⟨by dsimp only; omega, by dsimp only; omega, rfl⟩)⟩, by dsimp only; omega, by dsimp only; omega, by dsimp only; omega, by dsimp only; omega, by dsimp only; omega, by dsimp only; omega⟩
theorem nPl_le (s : ByteArray) : nPl s ≤ s.size / 4 := by unfold nPl; split <;> omega
theorem blk_plain {s : ByteArray} (h : blkOK s) {j : Nat} (hj : j < nPl s) : plW (wdAt s j) = true := by
  by_cases hl : j + 1 < s.size / 4
  · exact h.2.2.2 j hl
  · unfold nPl at hj
    split at hj
    · rename_i hp
      have : j = s.size / 4 - 1 := by omega
      rw [this]; exact hp
    · omega
theorem blkPuts_ok {s : ByteArray} (h : blkOK s) : ∀ p ∈ blkPuts s, okPut p ∧ p.k < 4294967296 := by
  intro p hp
  obtain ⟨j, hj, rfl⟩ := List.mem_map.1 hp
  have := putW_ok (blk_plain h (List.mem_range.1 hj))
  exact ⟨this.1, by omega⟩

/-! ### what a plan does -/
def vD (l mem : List Int) (p : PutN) : Int :=
  if p.kind = 1 then (p.k : Int) else if p.kind = 6 then mem.getD ((l.getD p.a 0 + (p.k : Int)) % 128).toNat 0 else if p.kind = 7 then l.getD p.a 0 else wk p.kind (l.getD p.a 0) (l.getD p.b 0)
def stD (mem : List Int) (l : List Int) (p : PutN) : List Int := l.set p.d (vD l mem p)
def doL (mem : List Int) (ps : List PutN) (l : List Int) : List Int := ps.foldl (stD mem) l
def begD (regs : List Int) : List Int := regs ++ List.replicate 8 0

/-! ### expressions as texts -/
def sReg (q : Nat) : List UInt8 := 114 :: numB 1 q
def sCon (v : Nat) : List UInt8 := 35 :: numB 4 v
def sOp (op : Nat) (x y : List UInt8) : List UInt8 := 40 :: (numB 1 op ++ (x ++ (y ++ [41])))
def sLd (x : List UInt8) (k : Nat) : List UInt8 := 91 :: (x ++ (numB 2 k ++ [93]))
def isCon (x : List UInt8) : Bool := x.getD 0 0 == 35
def valX (x : List UInt8) : Nat := beN ⟨x.toArray⟩ 1 4
def jnS (op : Nat) (x y : List UInt8) : List UInt8 := if isCon x = true ∧ isCon y = true then sCon (wk op (valX x) (valX y)).toNat else sOp op x y
def ldS (x : List UInt8) (k : Nat) : List UInt8 := if isCon x = true then sLd (sCon ((valX x + k) % 128)) 0 else sLd x k
def vS (l : List (List UInt8)) (p : PutN) : List UInt8 :=
  if p.kind = 1 then sCon p.k else if p.kind = 6 then ldS (l.getD p.a []) p.k else if p.kind = 7 then l.getD p.a [] else jnS p.kind (l.getD p.a []) (l.getD p.b [])
def stS (l : List (List UInt8)) (p : PutN) : List (List UInt8) := l.set p.d (vS l p)
def begS : List (List UInt8) := (List.range 16).map fun q => if q < 8 then sReg q else sCon 0
def comeS (ps : List PutN) : List (List UInt8) := ps.foldl stS begS

theorem valX_con (v : Nat) (h : v < 4294967296) : valX (sCon v) = v := by
  unfold valX sCon
  simp only [beN, numB]
  have e : ∀ (a b c d e : UInt8) , (ByteArray.get! ⟨[a, b, c, d, e].toArray⟩ 1 = b ∧ ByteArray.get! ⟨[a, b, c, d, e].toArray⟩ 2 = c ∧ ByteArray.get! ⟨[a, b, c, d, e].toArray⟩ 3 = d ∧ ByteArray.get! ⟨[a, b, c, d, e].toArray⟩ 4 = e) := fun a b c d e => ⟨rfl, rfl, rfl, rfl⟩
  obtain ⟨e1, e2, e3, e4⟩ := e 35 (UInt8.ofNat (v / 256 ^ 3 % 256)) (UInt8.ofNat (v / 256 ^ 2 % 256)) (UInt8.ofNat (v / 256 ^ 1 % 256)) (UInt8.ofNat (v / 256 ^ 0 % 256))
  rw [Nat.add_zero, show 1 + 1 = 2 from rfl, show 1 + 2 = 3 from rfl, show 1 + 3 = 4 from rfl, e1, e2, e3, e4]
  simp only [UInt8.toNat_ofNat']
  omega
theorem isCon_con (v : Nat) : isCon (sCon v) = true := rfl

/-- What a text of an expression is: a constant, or one that begins otherwise; not too long. -/
def XS (m : Nat) (x : List UInt8) : Prop := x.length ≤ m ∧ ((∃ v, v < 4294967296 ∧ x = sCon v) ∨ (isCon x = false ∧ 0 < x.length))
theorem wk_bd (op x y : Int) (hx0 : 0 ≤ x) (hx1 : x < 4294967296) (hy0 : 0 ≤ y) (hy1 : y < 4294967296) : 0 ≤ wk op x y ∧ wk op x y < 4294967296 := by
  unfold wk
  have := xorZ_bd x y hx0 hx1 hy0 hy1
  split
  · omega
  · split
    · omega
    · split
      · exact this
      · exact ⟨Int.emod_nonneg _ (by decide), Int.emod_lt_of_pos _ (by decide)⟩
theorem valX_lt (x : List UInt8) : valX x < 4294967296 := beN_lt _ _ _
theorem sCon_len (v : Nat) : (sCon v).length = 5 := rfl
theorem XS.con {m v : Nat} (hm : 5 ≤ m) (hv : v < 4294967296) : XS m (sCon v) := ⟨hm, .inl ⟨v, hv, rfl⟩⟩
theorem XS.jn {m op : Nat} {x y : List UInt8} (hm : 5 ≤ m) (hx : XS m x) (hy : XS m y) : XS (2 * m + 3) (jnS op x y) := by
  unfold jnS
  split
  · have h := wk_bd op (valX x) (valX y) (by omega) (by have := valX_lt x; omega) (by omega) (by have := valX_lt y; omega)
    exact XS.con (by omega) (by omega)
  · refine ⟨?_, .inr ⟨rfl, by simp [sOp]⟩⟩
    have := hx.1; have := hy.1
    simp [sOp, numB_len]
    omega
theorem XS.ld {m k : Nat} {x : List UInt8} (hm : 5 ≤ m) (hx : XS m x) : XS (2 * m + 3) (ldS x k) := by
  unfold ldS
  have := hx.1
  split
  · exact ⟨by simp [sLd, numB_len, sCon_len]; omega, .inr ⟨rfl, by simp [sLd]⟩⟩
  · exact ⟨by simp [sLd, numB_len]; omega, .inr ⟨rfl, by simp [sLd]⟩⟩
theorem XS.mono {m n : Nat} {x : List UInt8} (h : XS m x) (hmn : m ≤ n) : XS n x := ⟨Nat.le_trans h.1 hmn, h.2⟩
def XSL (m : Nat) (l : List (List UInt8)) : Prop := l.length = 16 ∧ ∀ x ∈ l, XS m x
theorem XSL.at {m : Nat} {l : List (List UInt8)} (h : XSL m l) {i : Nat} (hi : i < 16) : XS m (l.getD i []) := by
  have : i < l.length := by rw [h.1]; exact hi
  rw [List.getD_eq_getElem?_getD, List.getElem?_eq_getElem this]
  exact h.2 _ (List.getElem_mem _)
theorem XSL.beg : XSL 5 begS := by
  refine ⟨by simp [begS], fun x hx => ?_⟩
  obtain ⟨q, _, rfl⟩ := List.mem_map.1 hx
  split
  · exact ⟨by simp [sReg, numB_len], .inr ⟨rfl, by simp [sReg]⟩⟩
  · exact XS.con (by decide) (by decide)
theorem XSL.step {m : Nat} {l : List (List UInt8)} {p : PutN} (h : XSL m l) (hm : 5 ≤ m) (hp : okPut p) (hk : p.k < 4294967296) : XSL (2 * m + 3) (stS l p) := by
  refine ⟨by simp [stS, h.1], fun x hx => ?_⟩
  rcases List.mem_or_eq_of_mem_set hx with hx | rfl
  · exact (h.2 x hx).mono (by omega)
  · unfold vS
    split
    · exact XS.con (by omega) hk
    · split
      · exact XS.ld hm (h.at hp.2.1)
      · split
        · exact (h.at hp.2.1).mono (by omega)
        · exact XS.jn hm (h.at hp.2.1) (h.at hp.2.2.1)
/-- The bound behind n puts. -/
def bdX : Nat → Nat
  | 0 => 5
  | n + 1 => 2 * bdX n + 3
theorem bdX_le (n : Nat) : 5 ≤ bdX n := by
  induction n with
  | zero => decide
  | succ n ih => rw [bdX]; omega
theorem bdX_mono {n m : Nat} (h : n ≤ m) : bdX n ≤ bdX m := by
  induction m with
  | zero => rw [Nat.le_zero.1 h]; exact Nat.le_refl _
  | succ m ih =>
    by_cases hn : n = m + 1
    · rw [hn]; exact Nat.le_refl _
    · have := ih (by omega)
      rw [bdX]; omega
theorem bdX_10 {n : Nat} (h : n ≤ 10) : bdX n ≤ 8189 := bdX_mono h

/-! ### a table that holds each expression once -/
/-- kind (0: a register; 1: a constant), two expressions, a number. -/
abbrev Ex := Nat × Nat × Nat × Nat
def okE (n : Nat) (e : Ex) : Prop :=
  (e.1 = 0 ∧ e.2.1 = 0 ∧ e.2.2.1 = 0 ∧ e.2.2.2 < 8) ∨ (e.1 = 1 ∧ e.2.1 = 0 ∧ e.2.2.1 = 0 ∧ e.2.2.2 < 4294967296) ∨ (2 ≤ e.1 ∧ e.1 ≤ 5 ∧ e.2.1 < n ∧ e.2.2.1 < n ∧ e.2.2.2 = 0) ∨ (e.1 = 6 ∧ e.2.1 < n ∧ e.2.2.1 = 0 ∧ e.2.2.2 ≤ 4095)
def strE (ds : List (List UInt8)) (e : Ex) : List UInt8 :=
  if e.1 = 0 then sReg e.2.2.2 else if e.1 = 1 then sCon e.2.2.2 else if e.1 = 6 then sLd (ds.getD e.2.1 []) e.2.2.2 else sOp e.1 (ds.getD e.2.1 []) (ds.getD e.2.2.1 [])
structure TI (T : List Ex) (ds : List (List UInt8)) : Prop where
  len : ds.length = T.length
  ok : ∀ (i : Nat) (e : Ex), T[i]? = some e → okE i e ∧ ds[i]? = some (strE ds e)
  one : ∀ (i j : Nat) (e : Ex), T[i]? = some e → T[j]? = some e → i = j
theorem TI.nil : TI [] [] := ⟨rfl, fun i e h => by simp at h, fun i j e h => by simp at h⟩
theorem num1_inj {v v' : Nat} {r r' : List UInt8} (hv : v < 256) (hv' : v' < 256) (h : numB 1 v ++ r = numB 1 v' ++ r') : v = v' ∧ r = r' := by
  simp only [numB, List.cons_append, List.nil_append, List.cons.injEq] at h
  exact ⟨by have := ofNat_inj (Nat.mod_lt _ (by decide)) (Nat.mod_lt _ (by decide)) h.1; omega, h.2⟩
theorem num2_inj {v v' : Nat} {r r' : List UInt8} (hv : v < 65536) (hv' : v' < 65536) (h : numB 2 v ++ r = numB 2 v' ++ r') : v = v' ∧ r = r' := by
  simp only [numB, List.cons_append, List.nil_append, List.cons.injEq] at h
  have h1 := ofNat_inj (Nat.mod_lt _ (by decide)) (Nat.mod_lt _ (by decide)) h.1
  have h2 := ofNat_inj (Nat.mod_lt _ (by decide)) (Nat.mod_lt _ (by decide)) h.2.1
  exact ⟨by omega, h.2.2⟩
theorem num4_inj {v v' : Nat} {r r' : List UInt8} (hv : v < 4294967296) (hv' : v' < 4294967296) (h : numB 4 v ++ r = numB 4 v' ++ r') : v = v' ∧ r = r' := by
  obtain ⟨h1, h2⟩ := List.append_inj h (by rw [numB_len, numB_len])
  exact ⟨numB_inj4 hv hv' h1, h2⟩
theorem head_ne {a b : UInt8} {x y : List UInt8} (h : a :: x = b :: y) (hab : a ≠ b) : False := hab (List.cons.inj h).1
theorem strE_cases (ds : List (List UInt8)) {n : Nat} {e : Ex} (h : okE n e) : (∃ v, v < 8 ∧ e = (0, 0, 0, v) ∧ strE ds e = sReg v) ∨ (∃ v, v < 4294967296 ∧ e = (1, 0, 0, v) ∧ strE ds e = sCon v) ∨
    (∃ k a b, 2 ≤ k ∧ k ≤ 5 ∧ a < n ∧ b < n ∧ e = (k, a, b, 0) ∧ strE ds e = sOp k (ds.getD a []) (ds.getD b [])) ∨ (∃ a k, a < n ∧ k ≤ 4095 ∧ e = (6, a, 0, k) ∧ strE ds e = sLd (ds.getD a []) k) := by
  obtain ⟨kd, a, b, v⟩ := e
  unfold okE at h
  simp only at h
  rcases h with ⟨rfl, rfl, rfl, v0⟩ | ⟨rfl, rfl, rfl, v0⟩ | ⟨k0, k0', a0, b0, rfl⟩ | ⟨rfl, a0, rfl, v0⟩
  · exact .inl ⟨v, v0, rfl, rfl⟩
  · exact .inr (.inl ⟨v, v0, rfl, rfl⟩)
  · refine .inr (.inr (.inl ⟨kd, a, b, k0, k0', a0, b0, rfl, ?_⟩))
    unfold strE
    rw [if_neg (by dsimp only; omega), if_neg (by dsimp only; omega), if_neg (by dsimp only; omega)]
  · exact .inr (.inr (.inr ⟨a, v, a0, v0, rfl, rfl⟩))
theorem TI.pre {T : List Ex} {ds : List (List UInt8)} (h : TI T ds) : ∀ (n i j : Nat) (r r' : List UInt8), i < n → i < T.length → j < T.length → ds.getD i [] ++ r = ds.getD j [] ++ r' → i = j ∧ r = r' := by
  intro n
  induction n with
  | zero => intro i j r r' hi; omega
  | succ n ih =>
    intro i j r r' hi hil hjl he
    obtain ⟨ei, hei⟩ : ∃ e, T[i]? = some e := ⟨_, List.getElem?_eq_getElem hil⟩
    obtain ⟨ej, hej⟩ : ∃ e, T[j]? = some e := ⟨_, List.getElem?_eq_getElem hjl⟩
    obtain ⟨oi, di⟩ := h.ok i ei hei
    obtain ⟨oj, dj⟩ := h.ok j ej hej
    rw [List.getD_eq_getElem?_getD, di, List.getD_eq_getElem?_getD, dj, Option.getD_some, Option.getD_some] at he
    have fin : ei = ej ∧ r = r' → i = j ∧ r = r' := fun ⟨h1, h2⟩ => ⟨h.one i j ei hei (h1 ▸ hej), h2⟩
    apply fin
    clear fin hei hej di dj
    rcases strE_cases ds oi with ⟨v, hv, rfl, h1⟩ | ⟨v, hv, rfl, h1⟩ | ⟨k, a, b, k0, k1, a0, b0, rfl, h1⟩ | ⟨a, k, a0, k0, rfl, h1⟩ <;> rcases strE_cases ds oj with ⟨v', hv', rfl, h2⟩ | ⟨v', hv', rfl, h2⟩ | ⟨k', a', b', k0', k1', a0', b0', rfl, h2⟩ | ⟨a', k', a0', k0', rfl, h2⟩
    all_goals
      rw [h1, h2] at he
      simp only [sReg, sCon, sOp, sLd, List.cons_append, List.append_assoc] at he
    all_goals try exact (head_ne he (by decide)).elim
    · obtain ⟨h3, h4⟩ := num1_inj (by omega) (by omega) (List.cons.inj he).2
      subst h3
      exact ⟨rfl, h4⟩
    · obtain ⟨h3, h4⟩ := num4_inj hv hv' (List.cons.inj he).2
      subst h3
      exact ⟨rfl, h4⟩
    · obtain ⟨h1, h2⟩ := num1_inj (by omega) (by omega) (List.cons.inj he).2
      obtain ⟨h3, h4⟩ := ih a a' _ _ (by omega) (by omega) (by omega) h2
      obtain ⟨h5, h6⟩ := ih b b' _ _ (by omega) (by omega) (by omega) h4
      subst h1 h3 h5
      exact ⟨rfl, by simpa using h6⟩
    · obtain ⟨h3, h4⟩ := ih a a' _ _ (by omega) (by omega) (by omega) (List.cons.inj he).2
      obtain ⟨h5, h6⟩ := num2_inj (by omega) (by omega) h4
      subst h3 h5
      exact ⟨rfl, by simpa using h6⟩
theorem TI.inj {T : List Ex} {ds : List (List UInt8)} (h : TI T ds) {i j : Nat} (hi : i < T.length) (hj : j < T.length) (he : ds.getD i [] = ds.getD j []) : i = j :=
  (h.pre (i + 1) i j [] [] (by omega) hi hj (by rw [he])).1
theorem strE_append {ds : List (List UInt8)} {e : Ex} {n : Nat} (he : okE n e) (hn : n ≤ ds.length) (x : List (List UInt8)) : strE (ds ++ x) e = strE ds e := by
  unfold strE
  unfold okE at he
  rcases he with ⟨k0, _⟩ | ⟨k0, _⟩ | ⟨k0, k0', a0, b0, v0⟩ | ⟨k0, a0, b0, v0⟩
  · rw [if_pos k0, if_pos k0]
  · rw [if_neg (by omega), if_pos k0, if_neg (by omega), if_pos k0]
  · simp only [List.getD_eq_getElem?_getD]
    rw [List.getElem?_append_left (by omega), List.getElem?_append_left (by omega)]
  · simp only [List.getD_eq_getElem?_getD]
    rw [List.getElem?_append_left (by omega)]
    rw [if_neg (by omega), if_neg (by omega), if_pos k0, if_neg (by omega), if_neg (by omega), if_pos k0]
theorem TI.add {T : List Ex} {ds : List (List UInt8)} (h : TI T ds) {e : Ex} (he : okE T.length e) (hn : e ∉ T) : TI (T ++ [e]) (ds ++ [strE ds e]) := by
  refine ⟨by simp [h.len], fun i e' hi => ?_, fun i j e' hi hj => ?_⟩
  · by_cases hl : i < T.length
    · rw [List.getElem?_append_left hl] at hi
      obtain ⟨h1, h2⟩ := h.ok i e' hi
      refine ⟨h1, ?_⟩
      rw [List.getElem?_append_left (by rw [h.len]; exact hl), h2, strE_append h1 (by rw [h.len]; omega)]
    · rw [List.getElem?_append_right (by omega)] at hi
      have h0 : i - T.length = 0 := by
        have := (List.getElem?_eq_some_iff.1 hi).1
        simp at this
        omega
      rw [h0] at hi
      simp at hi
      subst hi
      have hi' : i = T.length := by omega
      subst hi'
      refine ⟨he, ?_⟩
      rw [List.getElem?_append_right (by rw [h.len]; exact Nat.le_refl _), h.len, Nat.sub_self, strE_append he (by rw [h.len]; exact Nat.le_refl _)]
      rfl
  · have key : ∀ k, (T ++ [e])[k]? = some e' → (k < T.length ∧ T[k]? = some e') ∨ (k = T.length ∧ e' = e) := fun k hk => by
      by_cases hl : k < T.length
      · rw [List.getElem?_append_left hl] at hk; exact .inl ⟨hl, hk⟩
      · rw [List.getElem?_append_right (by omega)] at hk
        have h0 := (List.getElem?_eq_some_iff.1 hk).1
        have h1 : k - T.length = 0 := by simp at h0; omega
        rw [h1] at hk
        simp at hk
        exact .inr ⟨by omega, hk.symm⟩
    rcases key i hi with ⟨_, h1⟩ | ⟨h1, h1'⟩ <;> rcases key j hj with ⟨_, h2⟩ | ⟨h2, h2'⟩
    · exact h.one i j e' h1 h2
    · exact absurd (List.mem_of_getElem? (h2' ▸ h1)) hn
    · exact absurd (List.mem_of_getElem? (h1' ▸ h2)) hn
    · omega
/-- A number of the table tells this text. -/
def Tells (T : List Ex) (ds : List (List UInt8)) (n : Nat) (x : List UInt8) : Prop := n < T.length ∧ ds.getD n [] = x
/-- A table that holds more. -/
def More (T : List Ex) (ds : List (List UInt8)) (T' : List Ex) (ds' : List (List UInt8)) : Prop := T <+: T' ∧ ds <+: ds'
theorem More.refl (T : List Ex) (ds : List (List UInt8)) : More T ds T ds := ⟨List.prefix_refl _, List.prefix_refl _⟩
theorem More.trans {T : List Ex} {ds : List (List UInt8)} {T' : List Ex} {ds' : List (List UInt8)} {T2 : List Ex} {ds2 : List (List UInt8)} (h : More T ds T' ds') (k : More T' ds' T2 ds2) : More T ds T2 ds2 := ⟨h.1.trans k.1, h.2.trans k.2⟩
theorem Tells.more {T : List Ex} {ds : List (List UInt8)} {T' : List Ex} {ds' : List (List UInt8)} {n : Nat} {x : List UInt8} (h : Tells T ds n x) (hl : ds.length = T.length) (k : More T ds T' ds') : Tells T' ds' n x := by
  obtain ⟨⟨t, rfl⟩, ⟨u, rfl⟩⟩ := k
  refine ⟨by have := h.1; simp; omega, ?_⟩
  rw [← h.2, List.getD_eq_getElem?_getD, List.getD_eq_getElem?_getD, List.getElem?_append_left (by rw [hl]; exact h.1)]
theorem More.add (T : List Ex) (ds : List (List UInt8)) (e : Ex) (x : List UInt8) : More T ds (T ++ [e]) (ds ++ [x]) := ⟨List.prefix_append _ _, List.prefix_append _ _⟩
theorem TI.told {T : List Ex} {ds : List (List UInt8)} (h : TI T ds) {n : Nat} {e : Ex} (hn : T[n]? = some e) : Tells T ds n (strE ds e) :=
  ⟨(List.getElem?_eq_some_iff.1 hn).1, by rw [List.getD_eq_getElem?_getD, (h.ok n e hn).2]; rfl⟩
theorem TI.told_new {T : List Ex} {ds : List (List UInt8)} (h : TI T ds) (e : Ex) : Tells (T ++ [e]) (ds ++ [strE ds e]) T.length (strE ds e) := by
  refine ⟨by simp, ?_⟩
  rw [List.getD_eq_getElem?_getD, ← h.len, List.getElem?_append_right (Nat.le_refl _), Nat.sub_self]
  rfl
/-- Is an expression of the table a constant: its text's first byte tells. -/
theorem TI.con {T : List Ex} {ds : List (List UInt8)} (h : TI T ds) {n : Nat} {e : Ex} (hn : T[n]? = some e) : (e.1 = 1 ↔ isCon (ds.getD n []) = true) ∧ (e.1 = 1 → ds.getD n [] = sCon e.2.2.2 ∧ e.2.2.2 < 4294967296) := by
  obtain ⟨h1, h2⟩ := h.ok n e hn
  rw [List.getD_eq_getElem?_getD, h2, Option.getD_some]
  unfold strE
  unfold okE at h1
  rcases h1 with ⟨k0, _⟩ | ⟨k0, _, _, v0⟩ | ⟨k0, k0', a0, b0, v0⟩ | ⟨k0, a0, b0, v0⟩
  · rw [if_pos k0]
    exact ⟨⟨fun h => by omega, fun h => by cases h⟩, fun h => by omega⟩
  · rw [if_neg (by omega), if_pos k0]
    exact ⟨⟨fun _ => rfl, fun _ => k0⟩, fun _ => ⟨rfl, v0⟩⟩
  · rw [if_neg (by omega), if_neg (by omega), if_neg (by omega)]
    exact ⟨⟨fun h => by omega, fun h => by cases h⟩, fun h => by omega⟩
  · rw [if_neg (by omega), if_neg (by omega), if_pos k0]
    exact ⟨⟨fun h => by omega, fun h => by cases h⟩, fun h => by omega⟩
end Go.Proofs.YtmmflekajbeamaaDoor
