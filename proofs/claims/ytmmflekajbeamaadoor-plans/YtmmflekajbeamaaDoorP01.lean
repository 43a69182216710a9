/-
  Plain mathematics of the machine's step (no program in sight but the laws on blocks of cells): the fields of a word, which words are instructions, what a step makes of a state's 138 numbers; how such a state lies in memory.
  The small functions of the machine and of the document's own answer: what each call gives, said of numbers (no memory but new blocks).
-/
import Derived.WalkKit
import Derived.WalkSpells
import Derived.WalkLawsBesides
import Derived.Deep.WholeRow
import Derived.Test.YtmmflekajbeamaaDoorRows
import Derived.Deep.Light
namespace Go.Proofs.YtmmflekajbeamaaDoor
open Go.RowKit

theorem hide {p : Prop} (h : p) : Hid p := h
theorem unhide {p : Prop} (h : Hid p) : p := h

/-! ### words -/
def fop (v : Int) : Int := v / 16777216 % 256
def fa (v : Int) : Int := v / 1048576 % 16
def fb (v : Int) : Int := v / 65536 % 16
def fc (v : Int) : Int := v / 4096 % 16
def fk (v : Int) : Int := v % 4096
theorem fop_bd (v : Int) : 0 ≤ fop v ∧ fop v < 256 := by unfold fop; omega
theorem fa_bd (v : Int) : 0 ≤ fa v ∧ fa v < 16 := by unfold fa; omega
theorem fb_bd (v : Int) : 0 ≤ fb v ∧ fb v < 16 := by unfold fb; omega
theorem fc_bd (v : Int) : 0 ≤ fc v ∧ fc v < 16 := by unfold fc; omega
theorem fk_bd (v : Int) : 0 ≤ fk v ∧ fk v < 4096 := by unfold fk; omega

theorem and_mask (n : Int) (k : Nat) (m : Int) (hm : (BitVec.ofInt 64 m).toNat = 2 ^ k - 1) (h0 : 0 ≤ n) (h1 : n < 4294967296) : bits .and .i64 n m = n % (2 ^ k : Nat) := by
  have key : (BitVec.ofInt 64 n &&& BitVec.ofInt 64 m).toNat = (n % ((2 ^ 64 : Nat) : Int)).toNat % 2 ^ k := by
    rw [BitVec.toNat_and, BitVec.toNat_ofInt, hm, Nat.and_two_pow_sub_one_eq_mod]
  show IntKind.i64.wrap ((BitVec.ofInt 64 n &&& BitVec.ofInt 64 m).toNat : Nat) = n % (2 ^ k : Nat)
  obtain ⟨N, rfl⟩ := Int.eq_ofNat_of_zero_le h0
  have e : (N : Int) % ((2 ^ 64 : Nat) : Int) = (N : Int) := by omega
  rw [key, e, IntKind.wrap_i64, Int.toNat_natCast, ← Int.natCast_emod]
  have hlt : N % 2 ^ k ≤ N := Nat.mod_le _ _
  omega
theorem and255 (n : Int) (h0 : 0 ≤ n) (h1 : n < 4294967296) : bits .and .i64 n 255 = n % 256 := and_mask n 8 255 (by decide) h0 h1
theorem and15 (n : Int) (h0 : 0 ≤ n) (h1 : n < 4294967296) : bits .and .i64 n 15 = n % 16 := and_mask n 4 15 (by decide) h0 h1
theorem and4095 (n : Int) (h0 : 0 ≤ n) (h1 : n < 4294967296) : bits .and .i64 n 4095 = n % 4096 := and_mask n 12 4095 (by decide) h0 h1

/-- x xor y, of two words. -/
def xorZ (x y : Int) : Int := ((x.toNat ^^^ y.toNat : Nat) : Int)
theorem xorZ_bd (x y : Int) (hx0 : 0 ≤ x) (hx1 : x < 4294967296) (hy0 : 0 ≤ y) (hy1 : y < 4294967296) : 0 ≤ xorZ x y ∧ xorZ x y < 4294967296 := by
  have h : x.toNat ^^^ y.toNat < 2 ^ 32 := Nat.xor_lt_two_pow (by omega) (by omega)
  unfold xorZ; omega
theorem xor_i64 (x y : Int) (hx0 : 0 ≤ x) (hx1 : x < 4294967296) (hy0 : 0 ≤ y) (hy1 : y < 4294967296) : bits .xor .i64 x y = xorZ x y := by
  obtain ⟨a, rfl⟩ := Int.eq_ofNat_of_zero_le hx0
  obtain ⟨b, rfl⟩ := Int.eq_ofNat_of_zero_le hy0
  have hx : a ^^^ b < 2 ^ 32 := Nat.xor_lt_two_pow (by omega) (by omega)
  have h1 : (BitVec.ofInt 64 (a : Int)).toNat = a := by
    rw [BitVec.ofInt_natCast, BitVec.toNat_ofNat]; exact Nat.mod_eq_of_lt (by omega)
  have h2 : (BitVec.ofInt 64 (b : Int)).toNat = b := by
    rw [BitVec.ofInt_natCast, BitVec.toNat_ofNat]; exact Nat.mod_eq_of_lt (by omega)
  show IntKind.i64.wrap ((BitVec.ofInt 64 (a : Int) ^^^ BitVec.ofInt 64 (b : Int)).toNat : Int) = _
  rw [BitVec.toNat_xor, h1, h2, IntKind.wrap_i64]
  unfold xorZ
  simp only [Int.toNat_natCast]
  omega
theorem xor_u32 (x y : Int) (hx0 : 0 ≤ x) (hx1 : x < 4294967296) (hy0 : 0 ≤ y) (hy1 : y < 4294967296) : bits .xor .u32 x y = xorZ x y := u32_xor x y hx0 hx1 hy0 hy1

/-- What an op of two words gives. -/
def wk (op x y : Int) : Int := if op = 2 then (x + y) % 4294967296 else if op = 3 then (x + 4294967296 - y) % 4294967296 else if op = 4 then xorZ x y else (x * y) % 4294967296

theorem mul_halves (x y : Int) : (x / 65536 * y % 65536 * 65536 + x % 65536 * y) % 4294967296 = x * y % 4294967296 := by
  have e : x * y = (x / 65536 * y) * 65536 + x % 65536 * y := by
    have := Int.mul_ediv_add_emod x 65536
    conv => lhs; rw [← this]
    rw [Int.add_mul, Int.mul_assoc, Int.mul_comm 65536]
  rw [e]
  generalize x / 65536 * y = p
  generalize x % 65536 * y = q
  omega
theorem half_bd (x y : Int) (hx0 : 0 ≤ x) (hx1 : x < 4294967296) (hy0 : 0 ≤ y) (hy1 : y < 4294967296) : 0 ≤ x / 65536 * y ∧ x / 65536 * y ≤ 65535 * 4294967295 ∧ 0 ≤ x % 65536 * y ∧ x % 65536 * y ≤ 65535 * 4294967295 := by
  refine ⟨Int.mul_nonneg (by omega) hy0, Int.mul_le_mul (by omega) (by omega) hy0 (by omega), Int.mul_nonneg (by omega) hy0, Int.mul_le_mul (by omega) (by omega) hy0 (by omega)⟩

/-- Is a word with these fields an instruction? -/
def knB (op a b c : Int) : Bool :=
  if op = 0 ∨ op = 9 then true else if op = 1 ∨ op = 10 then decide (a < 8) else if 2 ≤ op ∧ op ≤ 5 then decide (a < 8 ∧ b < 8 ∧ c < 8)
  else if op = 6 ∨ op = 7 ∨ op = 8 then decide (a < 8 ∧ b < 8) else false
/-- Is it a plain one? -/
def plB (op a b c : Int) : Bool :=
  if op = 1 then decide (a < 8) else if 2 ≤ op ∧ op ≤ 5 then decide (a < 8 ∧ b < 8 ∧ c < 8) else if op = 6 then decide (a < 8 ∧ b < 8) else false

theorem kn_pl (op a b c : Int) (h0 : op ≠ 0) (h7 : op ≠ 7) (h8 : op ≠ 8) (h9 : op ≠ 9) (h10 : op ≠ 10) : plB op a b c = knB op a b c := by
  simp [plB, knB, h0, h7, h8, h9, h10]

/-! ### a state's 138 numbers: the registers from 0 on, the memory from 8 on, Pc 136, Stop 137 -/
def gz (z : List Int) (i : Nat) : Int := z.getD i 0
def isW (v : Int) : Bool := decide (0 ≤ v ∧ v < 4294967296)
def regsB (z : List Int) : Bool := (List.range 8).all fun i => isW (gz z i)
def memB (z : List Int) : Bool := (List.range 128).all fun i => isW (gz z (8 + i))
def pcB (z : List Int) : Bool := decide (0 ≤ gz z 136 ∧ gz z 136 < 128 ∧ 0 ≤ gz z 137 ∧ gz z 137 ≤ 2)
/-- Is it a state? -/
def stB (z : List Int) : Bool := regsB z && memB z && pcB z
/-- What an instruction makes of it. -/
def nxt (z : List Int) (op a b c k : Int) : List Int :=
  if op = 0 then z.set 137 1
  else if op = 1 then (z.set a.toNat k).set 136 ((gz z 136 + 1) % 128)
  else if 2 ≤ op ∧ op ≤ 5 then (z.set a.toNat (wk op (gz z b.toNat) (gz z c.toNat))).set 136 ((gz z 136 + 1) % 128)
  else if op = 6 then (z.set a.toNat (gz z (8 + ((gz z b.toNat + k) % 128).toNat))).set 136 ((gz z 136 + 1) % 128)
  else if op = 7 then (z.set (8 + ((gz z b.toNat + k) % 128).toNat) (gz z a.toNat)).set 136 ((gz z 136 + 1) % 128)
  else if op = 8 then z.set 136 (if gz z a.toNat = gz z b.toNat then k % 128 else (gz z 136 + 1) % 128)
  else if op = 9 then z.set 136 (k % 128)
  else z.set 136 (gz z a.toNat % 128)
def zeroZ : List Int := List.replicate 138 0
/-- The word at Pc. -/
def wordZ (z : List Int) : Int := gz z (8 + (gz z 136).toNat)
def knZ (z : List Int) : Bool := knB (fop (wordZ z)) (fa (wordZ z)) (fb (wordZ z)) (fc (wordZ z))
def stp (z : List Int) : List Int × Int :=
  if stB z = false then (zeroZ, 8) else if gz z 137 ≠ 0 then (zeroZ, 9)
  else if knZ z = false then (z.set 137 2, 0)
  else (nxt z (fop (wordZ z)) (fa (wordZ z)) (fb (wordZ z)) (fc (wordZ z)) (fk (wordZ z)), 0)

theorem isW_iff (v : Int) : isW v = true ↔ 0 ≤ v ∧ v < 4294967296 := by simp [isW]
theorem stB_reg {z : List Int} (h : stB z = true) (i : Nat) (hi : i < 136) : 0 ≤ gz z i ∧ gz z i < 4294967296 := by
  simp only [stB, Bool.and_eq_true, regsB, memB, List.all_eq_true, List.mem_range] at h
  by_cases h8 : i < 8
  · exact (isW_iff _).1 (h.1.1 i h8)
  · have := h.1.2 (i - 8) (by omega)
    rw [show 8 + (i - 8) = i by omega] at this
    exact (isW_iff _).1 this
theorem stB_pc {z : List Int} (h : stB z = true) : 0 ≤ gz z 136 ∧ gz z 136 < 128 ∧ 0 ≤ gz z 137 ∧ gz z 137 ≤ 2 := by
  simp only [stB, Bool.and_eq_true, pcB, decide_eq_true_eq] at h
  exact h.2
/-- The first n of f are words. -/
def allW (f : Nat → Int) (n : Nat) : Bool := (List.range n).all fun i => isW (f i)
theorem allW_zero (f : Nat → Int) : allW f 0 = true := rfl
theorem allW_succ (f : Nat → Int) (n : Nat) : allW f (n + 1) = (allW f n && isW (f n)) := by
  simp [allW, List.range_succ, List.all_append]
theorem allW_false (f : Nat → Int) (n j : Nat) (hj : j < n) (h : isW (f j) = false) : allW f n = false := by
  rw [allW, List.all_eq_false]
  exact ⟨j, by simpa using hj, by simp [h]⟩

theorem set_same (z : List Int) (hl : z.length = 138) : (z.set 137 1).set 136 (gz z 136) = z.set 137 1 := by
  apply List.ext_getElem?
  intro i
  by_cases h : i = 136
  · subst h; simp [hl, gz]
  · have h' : ¬ 136 = i := fun e => h e.symm
    simp [List.getElem?_set, h']

/-! ### how it lies in memory -/
def S (z : List Int) : Array Value := (z.map (Value.int .i64)).toArray
theorem S_size (z : List Int) : (S z).size = z.length := by simp [S]
theorem S_get (z : List Int) (i : Nat) (h : i < z.length) : (S z)[i]? = some (.int .i64 (gz z i)) := by
  simp [S, gz, h]
theorem S_set (z : List Int) (i : Nat) (v : Int) : (S z).setIfInBounds i (.int .i64 v) = S (z.set i v) := by
  simp [S]
theorem S_one (z : List Int) : (S z).all (·.oneCell') = true := by
  rw [Array.all_eq_true_iff_forall_mem]
  intro x hx
  simp [S] at hx
  obtain ⟨a, _, rfl⟩ := hx
  rfl

/-- A block's cells; none: no cells. -/
def rowD (w : World) (n : Nat) : Array Value := match w.heap[n]? with | some (.cells c _ _) => c | _ => #[]
/-- Is the block a row of k cells, all of which may be written? -/
def isRowB (w : World) (n k : Nat) : Bool := match w.heap[n]? with | some (.cells c _ fr) => c.size == k && fr == (0, 0) | _ => false

theorem rowD_alloc_at (w : World) (c : Array Value) (t : TypeId) (n : Nat) (hn : n = w.heap.size) : rowD (w.alloc (.cells c t)) n = c := by
  subst hn; unfold rowD; rw [_root_.Go.heap_alloc_new]
theorem rowD_alloc_past (w : World) (o : Obj) (n : Nat) (hn : n < w.heap.size) : rowD (w.alloc o) n = rowD w n := by
  unfold rowD; rw [Below.heap_alloc w o n hn]
theorem rowD_drew (w : World) (n : Nat) : rowD w.drew n = rowD w n := rfl
theorem isRowB_alloc_at (w : World) (c : Array Value) (t : TypeId) (n k : Nat) (hn : n = w.heap.size) : isRowB (w.alloc (.cells c t)) n k = (c.size == k) := by
  subst hn; unfold isRowB; rw [_root_.Go.heap_alloc_new]; simp
theorem isRowB_alloc_past (w : World) (o : Obj) (n k : Nat) (hn : n < w.heap.size) : isRowB (w.alloc o) n k = isRowB w n k := by
  unfold isRowB; rw [Below.heap_alloc w o n hn]
theorem isRowB_drew (w : World) (n k : Nat) : isRowB w.drew n k = isRowB w n k := rfl

theorem setRow_alloc_at (w : World) (c c' : Array Value) (t : TypeId) (n : Nat) (hn : n = w.heap.size) : (w.alloc (.cells c t)).setRow n c' = w.alloc (.cells c' t) := by
  subst hn; exact World.setRow_alloc_new w c c' t
theorem setRow_alloc_past (w : World) (o : Obj) (n : Nat) (c' : Array Value) (hn : n < w.heap.size) : (w.alloc o).setRow n c' = (w.setRow n c').alloc o := by
  simp only [World.setRow, World.alloc]
  congr 1
  apply Array.ext_getElem?
  intro i
  rw [Array.getElem?_modify]
  simp only [Array.getElem?_push, Array.size_modify, Array.getElem?_modify]
  by_cases h : i = w.heap.size
  · subst h; simp; intro e; omega
  · simp [h]
theorem setRow_drew (w : World) (n : Nat) (c' : Array Value) : w.drew.setRow n c' = (w.setRow n c').drew := rfl

theorem load_rowD {P : Program} {ty : TypeId} {k : Nat} {d : TypeDesc} (hu : P.underlying ty = some d) (hd : (match d with | .struct _ | .array _ _ => true | _ => false) = true) (hi : (P.info? ty).map (·.size) = some k)
    (w : World) (n : Nat) (h : isRowB w n k = true) :
    (Instr.loadAt ty (.pointer (some ⟨n, 0, none⟩))).run P w = .ok (.agg (rowD w n)) w := by
  unfold isRowB at h
  unfold rowD
  cases hg : w.heap[n]? with
  | none => rw [hg] at h; cases h
  | some o =>
    cases o with
    | cells c t fr =>
      rw [hg] at h
      simp only [Bool.and_eq_true, beq_iff_eq] at h
      simp only [Instr.loadAt, Instr.sureAddr, Sem.run_bind, Sem.run_pure, Result.andThen_ok]
      exact run_loadVar_row w n t ty c fr d hg hu hd (by rw [hi, h.1])
    | _ => rw [hg] at h; cases h

theorem store_rowD {P : Program} {ty : TypeId} {k : Nat} (hi : (P.info? ty).map (·.size) = some k) (w : World) (n : Nat) (c' : Array Value) (h : isRowB w n k = true) (hs : c'.size = k) (h1 : c'.all (·.oneCell') = true) :
    (Instr.storeAt ty (.pointer (some ⟨n, 0, none⟩)) (.agg c')).run P w = .ok () (w.setRow n c') := by
  unfold isRowB at h
  cases hg : w.heap[n]? with
  | none => rw [hg] at h; cases h
  | some o =>
    cases o with
    | cells c t fr =>
      rw [hg] at h
      simp only [Bool.and_eq_true, beq_iff_eq] at h
      obtain ⟨h2, rfl⟩ := h
      simp only [Instr.storeAt, Instr.sureAddr, Sem.run_bind, Sem.run_pure, Result.andThen_ok]
      exact run_storeVar_row w n t ty c c' hg (by rw [hi, hs]) (by omega) h1
    | _ => rw [hg] at h; cases h

/-! ### a word's fields by halving -/
def shr (v : Int) (p : Nat) : Int := v / ((2 ^ p : Nat) : Int)
def pw (n : Nat) : Int := ((2 ^ n : Nat) : Int)
theorem shr_zero (v : Int) : shr v 0 = v := by simp [shr]
theorem shr_succ (v : Int) (p : Nat) : shr v (p + 1) = shr v p / 2 := by
  unfold shr
  rw [Nat.pow_succ, Int.natCast_mul, Int.ediv_ediv_of_nonneg (Int.natCast_nonneg _)]
  rfl
theorem shr_bd (v : Int) (p : Nat) (h0 : 0 ≤ v) (h1 : v < 4294967296) : 0 ≤ shr v p ∧ shr v p < 4294967296 := by
  unfold shr
  have hp : 0 < 2 ^ p := Nat.pow_pos (by decide)
  generalize 2 ^ p = q at hp ⊢
  refine ⟨Int.ediv_nonneg h0 (by omega), Int.lt_of_le_of_lt (Int.ediv_le_self _ h0) h1⟩
theorem pw_succ (n : Nat) : pw (n + 1) = pw n * 2 := by unfold pw; rw [Nat.pow_succ]; omega
theorem pw_bd (n : Nat) (h : n ≤ 12) : 1 ≤ pw n ∧ pw n ≤ 4096 := by
  unfold pw
  have h1 : 1 ≤ 2 ^ n := Nat.pow_pos (by decide)
  have h2 : 2 ^ n ≤ 2 ^ 12 := Nat.pow_le_pow_right (by decide) h
  omega
end Go.Proofs.YtmmflekajbeamaaDoor

namespace Go.Proofs.YtmmflekajbeamaaDoor
open Go.RowKit

theorem ret_int {k : IntKind} {a b : Int} (h : a = b) : Ending.returned (.int k a) = .returned (.int k b) := by rw [h]
theorem ret_bool {a b : Bool} (h : a = b) : Ending.returned (.bool a) = .returned (.bool b) := by rw [h]

set_option maxHeartbeats 400000 in
theorem num_any (e : Int) (w : World) :
    Calls Tryd.prog 40 #[.int .i64 e] w fun e' w' => e' = .returned (.int .i64 e) ∧ w' = w := by
  go_enter Tryd.func40, Tryd.ntmps40
  go_wp2
  go_ret
  exact ⟨rfl, rfl⟩

set_option maxHeartbeats 400000 in
theorem address_any (a k : Int) (w : World) (ha : 0 ≤ a) (ha2 : a < 4294967296) (hk : 0 ≤ k) (hk2 : k < 4096) :
    Calls Tryd.prog 153 #[.int .i64 a, .int .i64 k] w fun e' w' => e' = .returned (.int .i64 ((a + k) % 128)) ∧ w' = w := by
  go_enter Tryd.func153, Tryd.ntmps153
  go_wp2
  go_ret
  exact ⟨rfl, rfl⟩

set_option maxHeartbeats 400000 in
theorem split_any (v : Int) (w : World) (h0 : 0 ≤ v) (h1 : v < 4294967296) :
    Calls Tryd.prog 119 #[.int .i64 v] w fun e' w' => e' = .returned (.agg #[.int .i64 (fop v), .int .i64 (fa v), .int .i64 (fb v), .int .i64 (fc v), .int .i64 (fk v)]) ∧ Below w.heap.size w w' := by
  have e1 : bits .and .i64 (v / 16777216) 255 = fop v := and255 _ (by omega) (by omega)
  have e2 : bits .and .i64 (v / 1048576) 15 = fa v := and15 _ (by omega) (by omega)
  have e3 : bits .and .i64 (v / 65536) 15 = fb v := and15 _ (by omega) (by omega)
  have e4 : bits .and .i64 (v / 4096) 15 = fc v := and15 _ (by omega) (by omega)
  have e5 : bits .and .i64 v 4095 = fk v := and4095 _ (by omega) (by omega)
  go_enter Tryd.func119, Tryd.ntmps119
  go_wp2
  exact bodyPost_ret (v := .agg #[.int .i64 (fop v), .int .i64 (fa v), .int .i64 (fb v), .int .i64 (fc v), .int .i64 (fk v)]) (by simp [results, Tryd.results119, go_sem]) rfl ⟨rfl, (Below.refl _ _).alloc (Nat.le_refl _) _⟩

set_option maxHeartbeats 400000 in
theorem isWord_any (v : Int) (w : World) :
    Calls Tryd.prog 131 #[.int .i64 v] w fun e' w' => e' = .returned (.bool (isW v)) ∧ w' = w := by
  by_cases h : 0 ≤ v
  · go_enter Tryd.func131, Tryd.ntmps131
    go_wp2
    all_goals
      go_ret
      refine ⟨ret_bool ?_, rfl⟩
      simp [isW, h]
      omega
  · have hd : decide (0 ≤ v) = false := by simpa using h
    go_enter Tryd.func131, Tryd.ntmps131
    go_wp2
    all_goals
      go_ret
      refine ⟨ret_bool ?_, rfl⟩
      simp [isW]
      omega

set_option maxHeartbeats 400000 in
theorem works_any (op x y : Int) (w : World) (hx0 : 0 ≤ x) (hx1 : x < 4294967296) (hy0 : 0 ≤ y) (hy1 : y < 4294967296) (h2 : 2 ≤ op) (h5 : op ≤ 5) :
    Calls Tryd.prog 84 #[.int .i64 op, .int .i64 x, .int .i64 y] w fun e' w' => e' = .returned (.int .i64 (wk op x y)) ∧ w' = w := by
  obtain ⟨b1, b2, b3, b4⟩ := half_bd x y hx0 hx1 hy0 hy1
  have ex := xor_i64 x y hx0 hx1 hy0 hy1
  have hop : op = 2 ∨ op = 3 ∨ op = 4 ∨ op = 5 := by omega
  clear h2 h5
  rcases hop with rfl | rfl | rfl | rfl
  all_goals
    go_enter Tryd.func84, Tryd.ntmps84
    go_wp2
    go_ret
    refine ⟨ret_int ?_, rfl⟩
    first | rfl | (simp only [wk]; exact mul_halves x y)

set_option maxHeartbeats 400000 in
theorem reckon_any (op x y : Int) (w : World) (hx0 : 0 ≤ x) (hx1 : x < 4294967296) (hy0 : 0 ≤ y) (hy1 : y < 4294967296) (h2 : 2 ≤ op) (h5 : op ≤ 5) :
    Calls Tryd.prog 138 #[.int .i64 op, .int .i64 x, .int .i64 y] w fun e' w' => e' = .returned (.int .i64 (wk op x y)) ∧ w' = w := by
  have ex := xor_u32 x y hx0 hx1 hy0 hy1
  obtain ⟨bx, by'⟩ := xorZ_bd x y hx0 hx1 hy0 hy1
  have hop : op = 2 ∨ op = 3 ∨ op = 4 ∨ op = 5 := by omega
  clear h2 h5
  rcases hop with rfl | rfl | rfl | rfl
  all_goals
    go_enter Tryd.func138, Tryd.ntmps138
    go_wp2
    go_ret
    refine ⟨ret_int ?_, rfl⟩
    clear ex
    first | rfl | (show (x - y) % 4294967296 = (x + 4294967296 - y) % 4294967296; omega)

set_option maxHeartbeats 400000 in
theorem field_any (v : Int) (p n : Nat) (w : World) (h0 : 0 ≤ v) (h1 : v < 4294967296) (hp : p ≤ 24) (hn : n ≤ 12) :
    Calls Tryd.prog 122 #[.int .i64 v, .int .i64 p, .int .i64 n] w fun e' w' => e' = .returned (.int .i64 (shr v p % pw n)) ∧ w' = w := by
  go_enter Tryd.func122, Tryd.ntmps122
  go_wp2
  go_loop [0, 7] (fun t i => ∃ j : Nat, j ≤ p ∧ i = .int .i64 j ∧ t = .int .i64 (shr v j)) (fun _ i => p - (intOf i).toNat)
  case atStart => exact ⟨0, Nat.zero_le _, rfl, by rw [shr_zero]⟩
  case round =>
    obtain ⟨j, hj, rfl, rfl⟩ := hrel
    have hb := shr_bd v j h0 h1
    obtain ⟨hb0, hb1⟩ := hb
    have HS : Hid (shr v (j + 1) = shr v j / 2) := shr_succ v j
    by_cases hlt : j < p
    · go_wp2
      go_round
      case rel => exact ⟨j + 1, by omega, by go_num, by rw [HS.out]⟩
      case measure => simp [intOf]; omega
    · have hjp : j = p := by omega
      subst hjp
      clear HS hlt
      go_wp2
      go_loop [8, 9] (fun t i => ∃ j : Nat, j ≤ n ∧ i = .int .i64 j ∧ t = .int .i64 (pw j)) (fun _ i => n - (intOf i).toNat)
      case atStart => exact ⟨0, Nat.zero_le _, rfl, rfl⟩
      case round =>
        obtain ⟨q, hq, rfl, rfl⟩ := hrel
        obtain ⟨hc0, hc1⟩ := pw_bd q (by omega)
        have HT : Hid (pw (q + 1) = pw q * 2) := pw_succ q
        by_cases hlt : q < n
        · go_wp2
          go_round
          case rel => exact ⟨q + 1, by omega, by go_num, by rw [HT.out]⟩
          case measure => simp [intOf]; omega
        · have hqn : q = n := by omega
          subst hqn
          have hne : (pw q == 0) = false := by simp; omega
          go_wp2
          go_ret
          exact ⟨rfl, rfl⟩

set_option maxHeartbeats 400000 in
theorem op_any (v : Int) (w : World) (h0 : 0 ≤ v) (h1 : v < 4294967296) :
    Calls Tryd.prog 79 #[.int .i64 v] w fun e' w' => e' = .returned (.int .i64 (fop v)) ∧ w' = w := by
  go_enter Tryd.func79, Tryd.ntmps79
  go_wp2_with (go_at_call 122; refine (field_any v 24 8 _ h0 h1 (by decide) (by decide)).mono ?_; rintro e w' ⟨rfl, rfl⟩)
  go_ret
  exact ⟨rfl, rfl⟩
theorem a_any (v : Int) (w : World) (h0 : 0 ≤ v) (h1 : v < 4294967296) :
    Calls Tryd.prog 80 #[.int .i64 v] w fun e' w' => e' = .returned (.int .i64 (fa v)) ∧ w' = w := by
  go_enter Tryd.func80, Tryd.ntmps80
  go_wp2_with (go_at_call 122; refine (field_any v 20 4 _ h0 h1 (by decide) (by decide)).mono ?_; rintro e w' ⟨rfl, rfl⟩)
  go_ret
  exact ⟨rfl, rfl⟩
theorem b_any (v : Int) (w : World) (h0 : 0 ≤ v) (h1 : v < 4294967296) :
    Calls Tryd.prog 81 #[.int .i64 v] w fun e' w' => e' = .returned (.int .i64 (fb v)) ∧ w' = w := by
  go_enter Tryd.func81, Tryd.ntmps81
  go_wp2_with (go_at_call 122; refine (field_any v 16 4 _ h0 h1 (by decide) (by decide)).mono ?_; rintro e w' ⟨rfl, rfl⟩)
  go_ret
  exact ⟨rfl, rfl⟩
theorem c_any (v : Int) (w : World) (h0 : 0 ≤ v) (h1 : v < 4294967296) :
    Calls Tryd.prog 83 #[.int .i64 v] w fun e' w' => e' = .returned (.int .i64 (fc v)) ∧ w' = w := by
  go_enter Tryd.func83, Tryd.ntmps83
  go_wp2_with (go_at_call 122; refine (field_any v 12 4 _ h0 h1 (by decide) (by decide)).mono ?_; rintro e w' ⟨rfl, rfl⟩)
  go_ret
  exact ⟨rfl, rfl⟩
theorem k_any (v : Int) (w : World) (h0 : 0 ≤ v) (h1 : v < 4294967296) :
    Calls Tryd.prog 82 #[.int .i64 v] w fun e' w' => e' = .returned (.int .i64 (fk v)) ∧ w' = w := by
  have HK : Hid (fk v = shr v 0 % pw 12) := by rw [shr_zero]; rfl
  go_enter Tryd.func82, Tryd.ntmps82
  go_wp2_with (go_at_call 122; refine (field_any v 0 12 _ h0 h1 (by decide) (by decide)).mono ?_; rintro e w' ⟨rfl, rfl⟩)
  go_ret
  exact ⟨ret_int HK.out.symm, rfl⟩

set_option maxHeartbeats 1000000 in
theorem plain_any (v : Int) (w : World) (h0 : 0 ≤ v) (h1 : v < 4294967296) :
    Calls Tryd.prog 92 #[.int .i64 v] w fun e' w' => e' = .returned (.bool (plB (fop v) (fa v) (fb v) (fc v))) ∧ w' = w := by
  have ho := op_any v w h0 h1
  have ha := a_any v w h0 h1
  have hb := b_any v w h0 h1
  have hc := c_any v w h0 h1
  obtain ⟨o0, o1⟩ := fop_bd v
  obtain ⟨a0, a1⟩ := fa_bd v
  obtain ⟨b0, b1⟩ := fb_bd v
  obtain ⟨c0, c1⟩ := fc_bd v
  generalize fop v = op at *
  generalize fa v = a at *
  generalize fb v = b at *
  generalize fc v = c at *
  have H1 := hide ho; have H2 := hide ha; have H3 := hide hb; have H4 := hide hc
  clear ho ha hb hc
  go_enter Tryd.func92, Tryd.ntmps92
  go_wp2_with (first | (go_at_call 79; refine (unhide H1).mono ?_; rintro e w' ⟨rfl, rfl⟩) | (go_at_call 80; refine (unhide H2).mono ?_; rintro e w' ⟨rfl, rfl⟩) | (go_at_call 81; refine (unhide H3).mono ?_; rintro e w' ⟨rfl, rfl⟩) | (go_at_call 83; refine (unhide H4).mono ?_; rintro e w' ⟨rfl, rfl⟩))
  all_goals
    go_ret
    refine ⟨ret_bool ?_, rfl⟩
    go_light
    try simp only [beq_iff_eq, beq_eq_false_iff_ne, ne_eq] at *
    clear H1 H2 H3 H4
    unfold plB
    first | (rw [if_pos (by omega)]) | (rw [if_neg (by omega), if_pos (by omega)]) | (rw [if_neg (by omega), if_neg (by omega), if_pos (by omega)]) | (rw [if_neg (by omega), if_neg (by omega), if_neg (by omega)])
    try (first | (symm; rw [decide_eq_true_eq]; omega) | (symm; rw [decide_eq_false_iff_not]; omega) | (rw [decide_eq_decide]; omega))

set_option maxHeartbeats 1000000 in
theorem known_any (v : Int) (w : World) (h0 : 0 ≤ v) (h1 : v < 4294967296) :
    Calls Tryd.prog 78 #[.int .i64 v] w fun e' w' => e' = .returned (.bool (knB (fop v) (fa v) (fb v) (fc v))) ∧ w' = w := by
  have hp := plain_any v w h0 h1
  have ho := op_any v w h0 h1
  have ha := a_any v w h0 h1
  have hb := b_any v w h0 h1
  obtain ⟨o0, o1⟩ := fop_bd v
  obtain ⟨a0, a1⟩ := fa_bd v
  obtain ⟨b0, b1⟩ := fb_bd v
  obtain ⟨c0, c1⟩ := fc_bd v
  generalize fop v = op at *
  generalize fa v = a at *
  generalize fb v = b at *
  generalize fc v = c at *
  have H1 := hide ho; have H2 := hide ha; have H3 := hide hb; have H4 := hide hp
  clear ho ha hb hp
  go_enter Tryd.func78, Tryd.ntmps78
  go_wp2_with (first | (go_at_call 92; refine (unhide H4).mono ?_; rintro e w' ⟨rfl, rfl⟩) | (go_at_call 79; refine (unhide H1).mono ?_; rintro e w' ⟨rfl, rfl⟩) | (go_at_call 80; refine (unhide H2).mono ?_; rintro e w' ⟨rfl, rfl⟩) | (go_at_call 81; refine (unhide H3).mono ?_; rintro e w' ⟨rfl, rfl⟩))
  all_goals
    go_ret
    refine ⟨ret_bool ?_, rfl⟩
    go_light
    try simp only [beq_iff_eq, beq_eq_false_iff_ne, ne_eq] at *
    clear H1 H2 H3 H4
    first | (exact kn_pl op a b c (by omega) (by omega) (by omega) (by omega) (by omega)) | unfold knB
    all_goals first | (rw [if_pos (by omega)]) | (rw [if_neg (by omega), if_pos (by omega)]) | (rw [if_neg (by omega), if_neg (by omega), if_pos (by omega)]) | (rw [if_neg (by omega), if_neg (by omega), if_neg (by omega), if_pos (by omega)])
    all_goals try (first | (symm; rw [decide_eq_true_eq]; omega) | (symm; rw [decide_eq_false_iff_not]; omega) | (rw [decide_eq_decide]; omega))
end Go.Proofs.YtmmflekajbeamaaDoor
