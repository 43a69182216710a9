/-
  Sound: the steps over a block's plain words (stepped).
  Frames, as plain mathematics: the check sum, bit by bit, in two ways; a frame's text; the first frame of a text; what the frames of an area tell.
  Frames, as plain mathematics: the first frame of a text, and what the frames of an area tell.
  Frames: the check sum, the program's and the document's (frame.Sum, cribref.Sum).
  Frames: a frame's text (cribref.Seal, frame.Seal).
-/
import Derived.Test.YtmmflekajbeamaaGreatDoorF12
import Derived.Deep.MidRow
import Derived.Test.YtmmflekajbeamaaGreatDoorF02
import Derived.Test.YtmmflekajbeamaaGreatDoorF09
import Derived.Test.YtmmflekajbeamaaGreatDoorF05
import Derived.Lib.AppendStr
namespace Go.Proofs.YtmmflekajbeamaaGreatDoor
open Go.RowKit

theorem wpList_load_midG {ops : Array Oper} {rest : List Oper} {op : Oper} {a : Act} {w : World} {Q : Exit → Act → World → Prop} (hw : Region.wanted op (yielded ops a.tmps) = true) (ty : TypeId) (x : Operand) (ho : op.op = .load ty x)
    (b o : Nat) (hx : a.eval x = .pointer (some ⟨b, o, none⟩)) (cs : List Value) (d : TypeDesc) (hc : w.rangeAt b o cs)
    (hu : Tryz.prog.underlying ty = some d) (hd : d.isRow = true) (hi : (Tryz.prog.info? ty).map (·.size) = some cs.length)
    (h : wpList Tryz.prog ops Q rest (a.put op.dst (.agg cs.toArray)) w) : wpList Tryz.prog ops Q (op :: rest) a w :=
  wpList_step fun K hK => by
    rw [if_pos hw]
    exact wp_load_mid ty x ho b o hx cs d hc hu hd hi (hK _ _ h)
theorem wpList_load_midZ {ops : Array Oper} {rest : List Oper} {op : Oper} {a : Act} {w : World} {Q : Exit → Act → World → Prop} (hw : Region.wanted op (yielded ops a.tmps) = true) (ty : TypeId) (x : Operand) (ho : op.op = .load ty x)
    (b o : Nat) (hx : a.eval x = .pointer (some ⟨b, o, none⟩)) (z : List Int) (d : TypeDesc) (hc : w.rangeAt b o (z.map (Value.int .i64)))
    (hu : Tryz.prog.underlying ty = some d) (hd : d.isRow = true) (hi : (Tryz.prog.info? ty).map (·.size) = some (z.map (Value.int .i64)).length)
    (h : wpList Tryz.prog ops Q rest (a.put op.dst (.agg (S z))) w) : wpList Tryz.prog ops Q (op :: rest) a w :=
  wpList_load_midG hw ty x ho b o hx _ d hc hu hd hi h
theorem cribStep_any (z : List Int) (w : World) (hl : z.length = 138) (ht : Tab w) :
    Calls Tryz.prog 58 #[.agg (S z)] w fun e' w' => e' = .returned (.tuple #[.agg (S (stp z).1), .int .i64 (stp z).2]) ∧ Below w.heap.size w w' :=
  cstep_any z (stp z).1 (stp z).2 w hl (stp_len z hl) (fun w' hb => mstep_any z w' hl (ht.below ht.pos hb))
theorem results_cell_tmp2 {fn : Func} {p u v : Tmp} {ty : TypeId} (h : fn.results = #[.cell p ty, .tmp u, .tmp v]) (tmps : Array Value) (P : Program) (w : World) :
    (results fn tmps).run P w =
      ((asAddr (tmps.getD p undef)).run P w).andThen fun a w₁ => ((loadVar ty a).run P w₁).andThen fun x w₂ => .ok (.tuple #[x, tmps.getD u undef, tmps.getD v undef]) w₂ := by
  simp only [results, h]
  simp [Sem.run_bind, Result.andThen]
theorem res_S3 {fn : Func} {p u v : Tmp} (h : fn.results = #[.cell p 28, .tmp u, .tmp v]) (tmps : Array Value) (w : World) (g : Nat) (t : TypeId) (z : List Int) (hz : z.length = 138)
    (hp : tmps.getD p undef = .pointer (some ⟨g, 0, none⟩)) (hg : w.heap[g]? = some (.cells (S z) t (0, 0))) (x y : Value) (hu : tmps.getD u undef = x) (hv : tmps.getD v undef = y) :
    (results fn tmps).run Tryz.prog w = .ok (.tuple #[.agg (S z), x, y]) w := by
  rw [results_cell_tmp2 h, hp, hu, hv]
  simp only [asAddr, Sem.run_pure, Result.andThen]
  rw [run_loadVar_row w g t 28 (S z) (0, 0) _ hg Tryz.underlying28 rfl (by rw [size34, S_size, hz])]

end Go.Proofs.YtmmflekajbeamaaGreatDoor

namespace Go.Proofs.YtmmflekajbeamaaGreatDoor

/-! ### the check sum -/
def crcP : Nat := 3988292384
def cb (x : Nat) : Nat := if x % 2 = 1 then x / 2 ^^^ crcP else x / 2
/-- A bit of a byte, the document's way. -/
def rb (x b : Nat) : Nat := if x % 2 ≠ b % 2 then x / 2 ^^^ crcP else x / 2
theorem xor_half (x y : Nat) : (x ^^^ y) / 2 = x / 2 ^^^ y / 2 := by
  have := @Nat.shiftRight_xor_distrib 1 x y
  simpa [Nat.shiftRight_eq_div_pow] using this
theorem xor_odd (x y : Nat) : (x ^^^ y) % 2 = 1 ↔ x % 2 ≠ y % 2 := by
  rw [Nat.xor_mod_two_eq_one]; omega
theorem cb_rb (x b : Nat) : cb (x ^^^ b) = rb x b ^^^ b / 2 := by
  unfold cb rb
  rw [xor_half]
  by_cases h : x % 2 ≠ b % 2
  · rw [if_pos ((xor_odd x b).2 h), if_pos h, Nat.xor_assoc, Nat.xor_assoc, Nat.xor_comm (b / 2) crcP]
  · rw [if_neg (fun e => h ((xor_odd x b).1 e)), if_neg h]
def cbN : Nat → Nat → Nat
  | 0, x => x
  | k + 1, x => cb (cbN k x)
def rbN (b : Nat) : Nat → Nat → Nat
  | 0, x => x
  | k + 1, x => rb (rbN b k x) (b / 2 ^ k)
theorem cbN_rbN (x b : Nat) : ∀ k, cbN k (x ^^^ b) = rbN b k x ^^^ b / 2 ^ k := by
  intro k
  induction k with
  | zero => simp [cbN, rbN]
  | succ k ih => rw [cbN, ih, cb_rb, rbN, Nat.pow_succ, Nat.div_div_eq_div_mul]
theorem cb_lt {x : Nat} (h : x < 4294967296) : cb x < 4294967296 := by
  unfold cb
  split
  · exact Nat.xor_lt_two_pow (n := 32) (by omega) (by decide)
  · omega
theorem rb_lt {x : Nat} (b : Nat) (h : x < 4294967296) : rb x b < 4294967296 := by
  unfold rb
  split
  · exact Nat.xor_lt_two_pow (n := 32) (by omega) (by decide)
  · omega
theorem cbN_lt {x : Nat} (h : x < 4294967296) : ∀ k, cbN k x < 4294967296
  | 0 => h
  | k + 1 => cb_lt (cbN_lt h k)
theorem rbN_lt {x : Nat} (b : Nat) (h : x < 4294967296) : ∀ k, rbN b k x < 4294967296
  | 0 => h
  | k + 1 => rb_lt _ (rbN_lt b h k)
/-- A byte more. -/
def crcB (x : Nat) (b : UInt8) : Nat := rbN b.toNat 8 x
theorem crcB_cb (x : Nat) (b : UInt8) : cbN 8 (x ^^^ b.toNat) = crcB x b := by
  rw [cbN_rbN, crcB, Nat.div_eq_of_lt (by have := b.toNat_lt; omega), Nat.xor_zero]
theorem crcB_lt {x : Nat} (b : UInt8) (h : x < 4294967296) : crcB x b < 4294967296 := rbN_lt _ h 8
def crcG (l : List UInt8) : Nat := l.foldl crcB 4294967295
theorem crcF_lt (l : List UInt8) : ∀ x, x < 4294967296 → l.foldl crcB x < 4294967296 := by
  induction l with
  | nil => intro x h; exact h
  | cons b l ih => intro x h; exact ih _ (crcB_lt b h)
def crc (l : List UInt8) : Nat := 4294967295 - crcG l
theorem crc_lt (l : List UInt8) : crc l < 4294967296 := by unfold crc; omega

/-! ### frames -/
def frH (kind : Nat) (pl : List UInt8) : List UInt8 := 99 :: (numB 1 kind ++ (numB 2 pl.length ++ pl))
def frT (kind : Nat) (pl : List UInt8) : List UInt8 := frH kind pl ++ numB 4 (crc (frH kind pl))
theorem frH_len (kind : Nat) (pl : List UInt8) : (frH kind pl).length = pl.length + 4 := by simp [frH, numB_len]; omega
theorem frT_len (kind : Nat) (pl : List UInt8) : (frT kind pl).length = pl.length + 8 := by simp [frT, frH_len, numB_len]
end Go.Proofs.YtmmflekajbeamaaGreatDoor

namespace Go.Proofs.YtmmflekajbeamaaGreatDoor

/-- A text's bytes, as a list. -/
def lst (s : ByteArray) : List UInt8 := s.data.toList
theorem lst_len (s : ByteArray) : (lst s).length = s.size := by unfold lst; rw [Array.length_toList]; rfl
theorem bya_lst (s : ByteArray) : bya (lst s) = s := by simp [bya, lst]
theorem lst_bya (l : List UInt8) : lst (bya l) = l := by simp [bya, lst]
/-- How long the first frame's payload should be. -/
def frN (l : List UInt8) : Nat := (l.getD 2 0).toNat * 256 + (l.getD 3 0).toNat
/-- The first frame of a text: its kind and its payload. -/
def frst (l : List UInt8) : Option (Nat × List UInt8) :=
  if l.length < 8 then none else
  if l.length < frN l + 8 then none else
  if 1 ≤ (l.getD 1 0).toNat ∧ (l.getD 1 0).toNat ≤ 3 ∧ frN l ≤ 200 ∧ l.take (frN l + 8) = frT (l.getD 1 0).toNat ((l.drop 4).take (frN l)) then
    some ((l.getD 1 0).toNat, (l.drop 4).take (frN l))
  else none
theorem frst_some {l : List UInt8} {k : Nat} {p : List UInt8} (h : frst l = some (k, p)) : 1 ≤ k ∧ k ≤ 3 ∧ p.length ≤ 200 ∧ p.length + 8 ≤ l.length ∧ l.take (p.length + 8) = frT k p ∧ k = (l.getD 1 0).toNat ∧ p.length = frN l ∧ p = (l.drop 4).take (frN l) := by
  unfold frst at h
  generalize frN l = n at h ⊢
  generalize (l.getD 1 0).toNat = kk at h ⊢
  by_cases h1 : l.length < 8
  · rw [if_pos h1] at h; cases h
  rw [if_neg h1] at h
  by_cases h2 : l.length < n + 8
  · rw [if_pos h2] at h; cases h
  rw [if_neg h2] at h
  by_cases h3 : 1 ≤ kk ∧ kk ≤ 3 ∧ n ≤ 200 ∧ l.take (n + 8) = frT kk ((l.drop 4).take n)
  · rw [if_pos h3] at h
    obtain ⟨a1, a2, a3, a4⟩ := h3
    cases h
    have hl : ((l.drop 4).take n).length = n := by rw [List.length_take, List.length_drop]; omega
    rw [hl]
    exact ⟨a1, a2, a3, by omega, a4, rfl, rfl, rfl⟩
  · rw [if_neg h3] at h; cases h
/-- Is a text the words of a block? -/
def blkB (s : ByteArray) : Bool := decide (4 ≤ s.size ∧ s.size ≤ 32 ∧ s.size % 4 = 0) && (List.range (s.size / 4 - 1)).all fun j => plW (wdAt s j)
theorem blkB_iff (s : ByteArray) : blkB s = true ↔ blkOK s := by
  unfold blkB blkOK
  rw [Bool.and_eq_true, decide_eq_true_eq, List.all_eq_true]
  constructor
  · rintro ⟨⟨h1, h2, h3⟩, h4⟩
    exact ⟨h1, h2, h3, fun j hj => h4 j (List.mem_range.2 (by omega))⟩
  · rintro ⟨h1, h2, h3, h4⟩
    exact ⟨⟨h1, h2, h3⟩, fun j hj => h4 j (by have := List.mem_range.1 hj; omega)⟩
/-- What an area's frames tell. -/
structure ArN where
  gen : Nat
  whole : Bool
  good : Nat
  list : List (List UInt8 × List UInt8)
def ar0 : ArN := ⟨0, false, 0, []⟩
/-- A frame more, if it may stand there. -/
def arT (a : ArN) (k : Nat) (p : List UInt8) : Option ArN :=
  if a.gen = 0 then (if k = 1 ∧ p.length = 4 ∧ beN (bya p) 0 4 ≠ 0 then some ⟨beN (bya p) 0 4, a.whole, a.good + (p.length + 8), a.list⟩ else none)
  else if k = 2 then (if p ≠ [] ∧ 1 + 4 * (p.getD 0 0).toNat ≤ p.length ∧ blkB (bya ((p.drop 1).take (4 * (p.getD 0 0).toNat))) = true then some ⟨a.gen, a.whole, a.good + (p.length + 8), a.list ++ [((p.drop 1).take (4 * (p.getD 0 0).toNat), p.drop (1 + 4 * (p.getD 0 0).toNat))]⟩ else none)
  else if k = 3 then (if a.whole = false ∧ p = [] then some ⟨a.gen, true, a.good + (p.length + 8), a.list⟩ else none)
  else none
/-- An area's frames, from where one stands. -/
def scn : Nat → ArN → List UInt8 → ArN
  | 0, a, _ => a
  | f + 1, a, l => match frst l with
    | none => a
    | some (k, p) => match arT a k p with
      | none => a
      | some a' => scn f a' (l.drop (p.length + 8))
theorem arT_good {a a' : ArN} {k : Nat} {p : List UInt8} (h : arT a k p = some a') : a'.good = a.good + (p.length + 8) ∧ 0 < a'.gen ∧ a'.list.length ≤ a.list.length + 1 := by
  unfold arT at h
  split at h
  · split at h
    · rename_i h1 h2
      cases h
      exact ⟨rfl, by have := h2.2.2; simp only; omega, Nat.le_succ _⟩
    · cases h
  · rename_i hg
    have hg' : 0 < a.gen := by omega
    split at h
    · split at h
      · cases h
        exact ⟨rfl, hg', by simp⟩
      · cases h
    · split at h
      · split at h
        · cases h
          exact ⟨rfl, hg', Nat.le_succ _⟩
        · cases h
      · cases h
/-- More rounds than there are frames change nothing. -/
theorem scn_more : ∀ (f g : Nat) (a : ArN) (l : List UInt8), l.length < f → f ≤ g → scn g a l = scn f a l := by
  intro f
  induction f with
  | zero => intro g a l h; omega
  | succ f ih =>
    intro g a l hl hg
    obtain ⟨g, rfl⟩ : ∃ g', g = g' + 1 := ⟨g - 1, by omega⟩
    rw [scn, scn]
    cases hf : frst l with
    | none => rfl
    | some kp =>
      obtain ⟨k, p⟩ := kp
      simp only
      cases ht : arT a k p with
      | none => rfl
      | some a' =>
        simp only
        have := (frst_some hf).2.2.2.1
        exact ih g a' _ (by rw [List.length_drop]; omega) (by omega)
/-- What a text tells. -/
def scan (l : List UInt8) : ArN := scn (l.length + 1) ar0 l
end Go.Proofs.YtmmflekajbeamaaGreatDoor

namespace Go.Proofs.YtmmflekajbeamaaGreatDoor
open Go.RowKit

theorem crcF_snoc (l : List UInt8) (b : UInt8) : (l ++ [b]).foldl crcB 4294967295 = crcB (l.foldl crcB 4294967295) b := by simp
theorem take_bt {s : ByteArray} {k : Nat} (h : k < s.size) : (lst s).take (k + 1) = (lst s).take k ++ [s.get! k] := by
  have hl : k < (lst s).length := by rw [lst_len]; exact h
  rw [List.take_add_one, List.getElem?_eq_getElem hl]
  congr 1
  show [(lst s)[k]] = [s.data[k]!]
  rw [getElem!_pos s.data k h]
  simp [lst]
theorem xorZ_nat (x y : Nat) : xorZ (x : Int) (y : Int) = ((x ^^^ y : Nat) : Int) := by unfold xorZ; simp
theorem crcP_int : (3988292384 : Int) = ((crcP : Nat) : Int) := by unfold crcP; simp
theorem and_one (x : Nat) (h : x < 4294967296) : bits .and .u32 (x : Int) 1 = ((x % 2 : Nat) : Int) := by
  have h1 : (BitVec.ofInt 32 (x : Int)).toNat = x := by
    rw [BitVec.ofInt_natCast, BitVec.toNat_ofNat]; exact Nat.mod_eq_of_lt (by omega)
  have h2 : (BitVec.ofInt 32 1).toNat = 1 := by decide
  show IntKind.u32.wrap ((BitVec.ofInt 32 (x : Int) &&& BitVec.ofInt 32 1).toNat : Int) = _
  rw [BitVec.toNat_and, h1, h2, Nat.and_one_is_mod]
  simp [IntKind.wrap, IntKind.signed, IntKind.bits]
  omega
theorem not_nat {x : Nat} (h : x < 4294967296) : 4294967295 ^^^ x = 4294967295 - x := by
  have e : 4294967295 - x = 2 ^ 32 - (x + 1) := by omega
  have e2 : (4294967295 : Nat) = 2 ^ 32 - 1 := by decide
  rw [e]
  apply Nat.eq_of_testBit_eq
  intro i
  rw [Nat.testBit_two_pow_sub_succ (by omega), Nat.testBit_xor, e2, Nat.testBit_two_pow_sub_one]
  by_cases hi : i < 32
  · simp [hi]
  · have : x.testBit i = false := Nat.testBit_lt_two_pow (Nat.lt_of_lt_of_le (by omega : x < 2 ^ 32) (Nat.pow_le_pow_right (by decide) (by omega)))
    simp [hi, this]
theorem not_u32 (x : Nat) (h : x < 4294967296) : bits .xor .u32 IntKind.u32.max (x : Int) = 4294967295 - (x : Int) := by
  have e : IntKind.u32.max = ((4294967295 : Nat) : Int) := by decide
  rw [e, xor_u32 _ _ (by omega) (by omega) (by omega) (by omega), xorZ_nat, not_nat h]
  omega
theorem bit_of (B m : Nat) (hB : B < 256) : (wrap64 ((B : Int) / 2 ^ m)).tmod 2 = ((B / 2 ^ m % 2 : Nat) : Int) := by
  have e : (B : Int) / 2 ^ m = ((B / 2 ^ m : Nat) : Int) := by simp
  have hq : B / 2 ^ m ≤ B := Nat.div_le_self _ _
  rw [e]
  generalize B / 2 ^ m = q at *
  have hw : wrap64 (q : Int) = (q : Int) := by unfold wrap64; omega
  rw [hw, Int.tmod_eq_emod_of_nonneg (by omega)]
  omega
theorem rb_odd {x b : Nat} (h : x % 2 ≠ b % 2) : rb x b = x / 2 ^^^ crcP := by unfold rb; rw [if_pos h]
theorem rb_even {x b : Nat} (h : x % 2 = b % 2) : rb x b = x / 2 := by unfold rb; rw [if_neg (fun e => e h)]

set_option maxRecDepth 100000 in
set_option maxHeartbeats 1000000 in
theorem refSum_any (s : ByteArray) (w : World) (hs : s.size ≤ maxLen) :
    Calls Tryz.prog 123 #[.string s] w fun e' w' => e' = .returned (.int .i64 (crc (lst s) : Nat)) ∧ w' = w := by
  go_enter Tryz.func123, Tryz.ntmps123
  go_wp2_with fail
  go_loop [3, 4] (fun x i => ∃ k X : Nat, k ≤ s.size ∧ i = .int .i64 k ∧ x = .int .i64 X ∧ Hid (X = ((lst s).take k).foldl crcB 4294967295)) (fun _ i => s.size - (intOf i).toNat)
  case atStart => exact ⟨0, 4294967295, Nat.zero_le _, rfl, rfl, rfl⟩
  case round =>
    obtain ⟨k, X, hk, rfl, rfl, HX⟩ := hrel
    have hXl : X < 4294967296 := by rw [HX.out]; exact crcF_lt _ _ (by decide)
    by_cases hlt : k < s.size
    · have hlt' : (k : Int) < (s.size : Int) := by omega
      have HK2 : Hid (wrap64 ((k : Int) + 1) = (k : Int) + 1) := by unfold Hid wrap64; unfold maxLen at hs; omega
      have hgb := bt_get s k hlt
      have hbl := bt_lt s k
      have HN : Hid (crcB X (s.get! k) = ((lst s).take (k + 1)).foldl crcB 4294967295) := by unfold Hid; rw [take_bt hlt, crcF_snoc, HX.out]
      have HC : Hid (crcB X (s.get! k) = rbN (bt s k) 8 X) := rfl
      generalize bt s k = B at *
      go_wp2_with fail
      go_loop [3, 5] (fun x j => ∃ m Y : Nat, m ≤ 8 ∧ j = .int .i64 m ∧ x = .int .i64 Y ∧ Hid (Y = rbN B m X)) (fun _ j => 8 - (intOf j).toNat)
      case atStart => exact ⟨0, X, Nat.zero_le _, rfl, rfl, rfl⟩
      case round =>
        obtain ⟨m, Y, hm, rfl, rfl, HY⟩ := hrel
        have hYl : Y < 4294967296 := by rw [HY.out]; exact rbN_lt _ hXl _
        by_cases hml : m < 8
        · have hml' : (m : Int) < 8 := by omega
          have e1 := bit_of B m hbl
          have ex : bits .xor .i64 ((Y : Int) / 2) 3988292384 = ((Y / 2 ^^^ crcP : Nat) : Int) := by
            rw [xor_i64 _ _ (by omega) (by omega) (by decide) (by decide), show (Y : Int) / 2 = ((Y / 2 : Nat) : Int) by omega]
            rw [crcP_int]
            exact xorZ_nat (Y / 2) crcP
          have HR : Hid (rbN B (m + 1) X = rb Y (B / 2 ^ m)) := by unfold Hid; rw [rbN, HY.out]
          have HE := hide e1; have HEx := hide ex
          clear e1 ex HN HC HX
          go_wp2_with fail
          · rename_i hb
            rw [HE.out] at hb
            refine ⟨⟨m + 1, Y / 2 ^^^ crcP, by omega, by go_num, by rw [HEx.out], ?_⟩, by simp [intOf]; omega⟩
            unfold Hid
            rw [HR.out, rb_odd (by simp only [bne_iff_ne, ne_eq] at hb; omega)]
          · rename_i hb
            rw [HE.out] at hb
            refine ⟨⟨m + 1, Y / 2, by omega, by go_num, by rw [show (Y : Int) / 2 = ((Y / 2 : Nat) : Int) by omega], ?_⟩, by simp [intOf]; omega⟩
            unfold Hid
            rw [HR.out, rb_even (by simp only [bne_eq_false_iff_eq] at hb; omega)]
        · have hml' : ¬ (m : Int) < 8 := by omega
          have hm8 : m = 8 := by omega
          have HNx : Hid (Y = ((lst s).take (k + 1)).foldl crcB 4294967295) := by unfold Hid; rw [← HN.out, HC.out, HY.out, hm8]
          go_wp2_with fail
          rw [HK2.out]
          exact ⟨⟨k + 1, Y, by omega, by go_num, rfl, HNx.out⟩, by simp [intOf]; omega⟩
    · have hlt' : ¬ (k : Int) < (s.size : Int) := by omega
      have hke : k = s.size := by omega
      have HE : Hid ((crc (lst s) : Int) = 4294967295 - (X : Int)) := by
        unfold Hid crc crcG
        have := HX.out
        rw [hke, List.take_of_length_le (by rw [lst_len]; exact Nat.le_refl _)] at this
        rw [← this]
        omega
      go_wp2_with fail
      go_ret
      exact ⟨by rw [HE.out]; go_num, rfl⟩

set_option maxRecDepth 100000 in
set_option maxHeartbeats 1000000 in
theorem frSum_any (s : ByteArray) (w : World) (hs : s.size ≤ maxLen) :
    Calls Tryz.prog 103 #[.string s] w fun e' w' => e' = .returned (.int .i64 (crc (lst s) : Nat)) ∧ w' = w := by
  go_enter Tryz.func103, Tryz.ntmps103
  go_wp2_with fail
  go_loop [3, 8] (fun x i => ∃ k X : Nat, k ≤ s.size ∧ i = .int .i64 k ∧ x = .int .u32 X ∧ Hid (X = ((lst s).take k).foldl crcB 4294967295)) (fun _ i => s.size - (intOf i).toNat)
  case atStart => exact ⟨0, 4294967295, Nat.zero_le _, rfl, rfl, rfl⟩
  case round =>
    obtain ⟨k, X, hk, rfl, rfl, HX⟩ := hrel
    have hXl : X < 4294967296 := by rw [HX.out]; exact crcF_lt _ _ (by decide)
    by_cases hlt : k < s.size
    · have hlt' : (k : Int) < (s.size : Int) := by omega
      have HK2 : Hid (wrap64 ((k : Int) + 1) = (k : Int) + 1) := by unfold Hid wrap64; unfold maxLen at hs; omega
      have hgb := bt_get s k hlt
      have hbl := bt_lt s k
      have HN : Hid (crcB X (s.get! k) = ((lst s).take (k + 1)).foldl crcB 4294967295) := by unfold Hid; rw [take_bt hlt, crcF_snoc, HX.out]
      have HC : Hid (crcB X (s.get! k) = cbN 8 (X ^^^ bt s k)) := by unfold Hid; rw [← crcB_cb]; rfl
      have ex : bits .xor .u32 (X : Int) (bt s k : Int) = ((X ^^^ bt s k : Nat) : Int) := by
        rw [xor_u32 _ _ (by omega) (by omega) (by omega) (by omega)]
        exact xorZ_nat X _
      have hxl : X ^^^ bt s k < 4294967296 := Nat.xor_lt_two_pow (n := 32) (by omega) (by omega)
      have HK2 : Hid (wrap64 ((k : Int) + 1) = (k : Int) + 1) := by unfold Hid wrap64; unfold maxLen at hs; omega
      generalize bt s k = B at *
      go_wp2_with fail
      go_loop [3, 17] (fun x j => ∃ m Y : Nat, m ≤ 8 ∧ j = .int .i64 m ∧ x = .int .u32 Y ∧ Hid (Y = cbN m (X ^^^ B))) (fun _ j => 8 - (intOf j).toNat)
      case atStart => exact ⟨0, X ^^^ B, Nat.zero_le _, rfl, rfl, rfl⟩
      case round =>
        obtain ⟨m, Y, hm, rfl, rfl, HY⟩ := hrel
        have hYl : Y < 4294967296 := by rw [HY.out]; exact cbN_lt hxl _
        by_cases hml : m < 8
        · have hml' : (m : Int) < 8 := by omega
          have HR : Hid (cbN (m + 1) (X ^^^ B) = cb Y) := by unfold Hid; rw [cbN, HY.out]
          have HA := hide (and_one Y hYl)
          have HEx : Hid (bits .xor .u32 ((Y : Int) / 2) 3988292384 = ((Y / 2 ^^^ crcP : Nat) : Int)) := by
            unfold Hid
            rw [xor_u32 _ _ (by omega) (by omega) (by decide) (by decide), show (Y : Int) / 2 = ((Y / 2 : Nat) : Int) by omega, crcP_int]
            exact xorZ_nat (Y / 2) crcP
          clear hgb HN HC HX
          go_wp2_with fail
          · rename_i hb
            rw [HA.out] at hb
            refine ⟨⟨m + 1, Y / 2 ^^^ crcP, by omega, by go_num, by rw [HEx.out], ?_⟩, by simp [intOf]; omega⟩
            unfold Hid
            rw [HR.out, cb, if_pos (by simp only [beq_iff_eq] at hb; omega)]
          · rename_i hb
            rw [HA.out] at hb
            refine ⟨⟨m + 1, Y / 2, by omega, by go_num, by rw [show (Y : Int) / 2 = ((Y / 2 : Nat) : Int) by omega], ?_⟩, by simp [intOf]; omega⟩
            unfold Hid
            rw [HR.out, cb, if_neg (by simp only [beq_eq_false_iff_ne, ne_eq] at hb; omega)]
        · have hml' : ¬ (m : Int) < 8 := by omega
          have hm8 : m = 8 := by omega
          have HNx : Hid (Y = ((lst s).take (k + 1)).foldl crcB 4294967295) := by unfold Hid; rw [← HN.out, HC.out, HY.out, hm8]
          go_wp2_with fail
          rw [HK2.out]
          exact ⟨⟨k + 1, Y, by omega, by go_num, rfl, HNx.out⟩, by simp [intOf]; omega⟩
    · have hlt' : ¬ (k : Int) < (s.size : Int) := by omega
      have hke : k = s.size := by omega
      have HE : Hid ((crc (lst s) : Int) = 4294967295 - (X : Int)) := by
        unfold Hid crc crcG
        have := HX.out
        rw [hke, List.take_of_length_le (by rw [lst_len]; exact Nat.le_refl _)] at this
        rw [← this]
        omega
      have hnx := not_u32 X hXl
      go_wp2_with fail
      go_ret
      exact ⟨ret_int (by rw [HE.out]; unfold wrap64; omega), rfl⟩
end Go.Proofs.YtmmflekajbeamaaGreatDoor

namespace Go.Proofs.YtmmflekajbeamaaGreatDoor
open Go.RowKit

def sealOK (kind : Int) (p : ByteArray) : Prop := 1 ≤ kind ∧ kind ≤ 3 ∧ p.size ≤ 200
/-- What a sealing leaves. -/
def SealPost (kind : Int) (p : ByteArray) (w : World) (e' : Ending) (w' : World) : Prop :=
  Below w.heap.size w w' ∧ ((sealOK kind p ∧ e' = .returned (.tuple #[.string (bya (frT kind.toNat (lst p))), .int .i64 0])) ∨ (¬ sealOK kind p ∧ e' = .returned (.tuple #[.string (bya []), .int .i64 1])))
theorem SealPost.form {kind : Int} {p : ByteArray} {w w' : World} {e : Ending} (h : SealPost kind p w e w') : ∃ D n, e = .returned (.tuple #[.string D, .int .i64 n]) := by
  obtain ⟨_, ⟨_, rfl⟩ | ⟨_, rfl⟩⟩ := h
  · exact ⟨_, _, rfl⟩
  · exact ⟨_, _, rfl⟩
set_option maxRecDepth 100000 in
set_option maxHeartbeats 2000000 in
theorem refSeal_any (kind : Int) (p : ByteArray) (w : World) :
    Calls Tryz.prog 124 #[.int .i64 kind, .string p] w (SealPost kind p w) := by
  by_cases h1 : kind < 1
  · have HN : Hid (¬ sealOK kind p) := fun h => by have := h.1; omega
    go_enter Tryz.func124, Tryz.ntmps124
    go_wp2_with fail
    go_ret2
    exact ⟨Below.refl _ _, .inr ⟨HN.out, rfl⟩⟩
  by_cases h3 : 3 < kind
  · have HN : Hid (¬ sealOK kind p) := fun h => by have := h.2.1; omega
    go_enter Tryz.func124, Tryz.ntmps124
    go_wp2_with fail
    go_ret2
    exact ⟨Below.refl _ _, .inr ⟨HN.out, rfl⟩⟩
  by_cases h2 : 200 < p.size
  · have HN : Hid (¬ sealOK kind p) := fun h => by have := h.2.2; omega
    have h2' : (200 : Int) < (p.size : Int) := by omega
    go_enter Tryz.func124, Tryz.ntmps124
    go_wp2_with fail
    go_ret2
    exact ⟨Below.refl _ _, .inr ⟨HN.out, rfl⟩⟩
  have HY : Hid (sealOK kind p) := ⟨by omega, by omega, by omega⟩
  have h2' : ¬ (200 : Int) < (p.size : Int) := by omega
  obtain ⟨K, rfl⟩ := Int.eq_ofNat_of_zero_le (show 0 ≤ kind by omega)
  have hK : K < 256 := by omega
  have hl := lst_len p
  have HH : Hid ((⟨#[99]⟩ : ByteArray) ++ bya (numB 1 K) ++ bya (numB 2 p.size) ++ p = bya (frH K (lst p))) := by
    have e : ∀ D : ByteArray, D ++ p = D ++ bya (lst p) := fun D => by rw [bya_lst]
    unfold Hid frH
    rw [hl, e, show (⟨#[99]⟩ : ByteArray) = bya [99] from rfl]
    simp only [bya_app]
    simp
  have HF : Hid (bya (frH K (lst p)) ++ bya (numB 4 (crc (frH K (lst p)))) = bya (frT K (lst p))) := by unfold Hid frT; rw [bya_app]
  have hhs : (bya (frH K (lst p))).size ≤ 204 := by rw [bya_size, frH_len, hl]; omega
  have HS := hide (fun w' => refSum_any (bya (frH K (lst p))) w' (by unfold maxLen; omega))
  rw [lst_bya] at HS
  have hcl := crc_lt (frH K (lst p))
  have N1 := hide (fun w' => number_ref K 1 w' (by decide) (by omega))
  have N2 := hide (fun w' => number_ref p.size 2 w' (by decide) (by omega))
  have N4 := hide (fun w' => number_ref (crc (frH K (lst p))) 4 w' (by decide) (by omega))
  have z1 : (bya (numB 1 K)).size = 1 := by rw [bya_size, numB_len]
  have z2 : (bya (numB 2 p.size)).size = 2 := by rw [bya_size, numB_len]
  have z4 : (bya (numB 4 (crc (frH K (lst p))))).size = 4 := by rw [bya_size, numB_len]
  generalize bya (numB 4 (crc (frH K (lst p)))) = D4 at *
  generalize crc (frH K (lst p)) = C at *
  generalize bya (frH K (lst p)) = HD at *
  generalize bya (numB 1 K) = D1 at *
  generalize bya (numB 2 p.size) = D2 at *
  have c3 : ∀ w', (Op.stringOp .add ((⟨#[99]⟩ : ByteArray) ++ D1 ++ D2) p).run Tryz.prog w' = .ok (.string HD) w' := fun w' => by
    rw [← HH.out]
    exact run_string_add_sum w' _ _ (by simp only [ByteArray.size_append]; rw [show (⟨#[99]⟩ : ByteArray).size = 1 from rfl]; omega)
  clear hl
  go_enter Tryz.func124, Tryz.ntmps124
  go_wp2_with fail
  refine (unhide N1 _).mono ?_
  rintro e w1 ⟨rfl, hb1⟩
  have HB1 := hide hb1
  have hw1 := hb1.size
  clear hb1 N1
  go_wp2_with fail
  refine (unhide N2 _).mono ?_
  rintro e w2 ⟨rfl, hb2⟩
  have HB2 : Hid (Below w.heap.size w w2) := HB1.out.trans (hb2.mono (by omega))
  have hw2 := hb2.size
  clear hb2 N2
  go_wp2_with fail
  refine (unhide HS _).mono ?_
  rintro e w' ⟨rfl, hw⟩
  obtain rfl := hw.symm
  clear HS
  go_wp2_with fail
  refine (unhide N4 _).mono ?_
  rintro e w3 ⟨rfl, hb3⟩
  have HB3 : Hid (Below w.heap.size w w3) := HB2.out.trans (hb3.mono (by omega))
  clear hb3 N4
  go_wp2_with fail
  go_ret2
  refine ⟨HB3.out, .inl ⟨HY.out, ?_⟩⟩
  rw [Int.toNat_natCast, ← HF.out]
  rfl

theorem strCells_u8 (p : ByteArray) : Go.Lib.strCells p = u8C (lst p) := rfl
theorem build99 (w : World) : (Instr.buildSlice 136 1 #[(0, .int .u8 99)]).run Tryz.prog w = .ok (.slice (some ⟨w.heap.size, 0, none⟩) 1 1) (w.alloc (.cells #[.int .u8 99] 5)) := by kernel_rfl

set_option maxRecDepth 100000 in
set_option maxHeartbeats 2000000 in
theorem frSeal_any (kind : Int) (p : ByteArray) (w : World) :
    Calls Tryz.prog 57 #[.int .i64 kind, .string p] w (SealPost kind p w) := by
  by_cases h1 : kind < 1
  · have HN : Hid (¬ sealOK kind p) := fun h => by have := h.1; omega
    go_enter Tryz.func57, Tryz.ntmps57
    go_wp2_with fail
    go_ret2
    exact ⟨Below.refl _ _, .inr ⟨HN.out, rfl⟩⟩
  by_cases h3 : 3 < kind
  · have HN : Hid (¬ sealOK kind p) := fun h => by have := h.2.1; omega
    go_enter Tryz.func57, Tryz.ntmps57
    go_wp2_with fail
    go_ret2
    exact ⟨Below.refl _ _, .inr ⟨HN.out, rfl⟩⟩
  by_cases h2 : 200 < p.size
  · have HN : Hid (¬ sealOK kind p) := fun h => by have := h.2.2; omega
    have h2' : (200 : Int) < (p.size : Int) := by omega
    go_enter Tryz.func57, Tryz.ntmps57
    go_wp2_with fail
    go_ret2
    exact ⟨Below.refl _ _, .inr ⟨HN.out, rfl⟩⟩
  have HY : Hid (sealOK kind p) := ⟨by omega, by omega, by omega⟩
  have h2' : ¬ (200 : Int) < (p.size : Int) := by omega
  obtain ⟨K, rfl⟩ := Int.eq_ofNat_of_zero_le (show 0 ≤ kind by omega)
  have hl := lst_len p
  obtain ⟨inf, hinf, hz, hsz1, hby⟩ := infoU8
  have HInf := hide hinf; have HZ := hide hz; have HSz := hide hsz1; have HBy := hide hby
  clear hinf hz hsz1 hby
  have hhs : (bya (frH K (lst p))).size ≤ 204 := by rw [bya_size, frH_len, hl]; omega
  have HS := hide (fun w' => frSum_any (bya (frH K (lst p))) w' (by unfold maxLen; omega))
  rw [lst_bya] at HS
  have o0 : (w.alloc (.cells #[.int .u8 99] 5)).ownsRow w.heap.size 5 1 (.slice (some ⟨w.heap.size, 0, none⟩) 1 1) ([99] : List UInt8).length (u8C [99]) := by
    refine ⟨rfl, .inr ⟨w.heap.size, 1, _, rfl, Nat.le_refl _, _root_.Go.heap_alloc_new w _, ?_, ?_, ?_, ?_⟩⟩
    all_goals first | decide | rfl | (unfold maxLen; decide) | simp [u8C]
  have HA1 := hide (numAppend_any w.heap.size _ [99] K 1 _ (by rw [size_alloc1]; omega) o0 (by decide) (by decide))
  have HA2 := hide (fun w' v (hB : w.heap.size ≤ w'.heap.size) (h : w'.ownsRow w.heap.size 5 1 v ([99] ++ numB 1 K).length (u8C ([99] ++ numB 1 K))) => numAppend_any w.heap.size v ([99] ++ numB 1 K) p.size 2 w' hB h (by simp [numB_len]) (by decide))
  have bs := build99 w
  clear o0
  go_enter Tryz.func57, Tryz.ntmps57
  go_wp2_with fail
  refine (unhide HA1).mono ?_
  rintro e w1 ⟨v1, rfl, o1, hb1, _⟩
  have HB1 : Hid (Below w.heap.size w w1) := ((Below.refl _ _).alloc (Nat.le_refl _) _).trans hb1
  have hw1 := HB1.out.size
  have HA2' := hide (HA2.out w1 v1 hw1 o1)
  clear HA1 HA2 o1 hb1 bs
  go_wp2_with fail
  refine (unhide HA2').mono ?_
  rintro e w2 ⟨v2, rfl, o2, hb2, _⟩
  have HB2 : Hid (Below w.heap.size w w2) := HB1.out.trans hb2
  have hw2 := HB2.out.size
  have HO2 := hide o2
  have hn2 : ([99] ++ numB 1 K ++ numB 2 p.size).length = 4 := by simp [numB_len]
  have HF3 : Hid (∀ (W : World) (v : Value), W.ownsRow w.heap.size 5 1 v (([99] ++ numB 1 K ++ numB 2 p.size).length + p.size) (u8C ([99] ++ numB 1 K ++ numB 2 p.size) ++ Go.Lib.strCells p) → W.ownsRow w.heap.size 5 1 v (frH K (lst p)).length (u8C (frH K (lst p)))) := fun W v h => by
    have e : u8C (frH K (lst p)) = u8C ([99] ++ numB 1 K ++ numB 2 p.size) ++ Go.Lib.strCells p := by
      rw [strCells_u8, ← u8C_app]
      unfold frH
      rw [hl]
      simp
    have e2 : (frH K (lst p)).length = ([99] ++ numB 1 K ++ numB 2 p.size).length + p.size := by rw [hn2, frH_len, hl]; omega
    rw [e, e2]
    exact h
  have HA4 := hide (fun w' v (hB : w.heap.size ≤ w'.heap.size) (h : w'.ownsRow w.heap.size 5 1 v (frH K (lst p)).length (u8C (frH K (lst p)))) => numAppend_any w.heap.size v (frH K (lst p)) (crc (frH K (lst p))) 4 w' hB h (by rw [frH_len, hl]; omega) (by decide))
  clear HA2' o2 hb2
  go_wp2_with (at_builtin; refine Go.Lib.wpList_append_own_string _ rfl _ _ 136 9 rfl w.heap.size 5 inf Tryz.underlying136 Tryz.underlying9 HInf.out HZ.out HSz.out HBy.out v2 _ _ rfl HO2.out p rfl (by rw [hn2]; unfold maxLen; omega) (by rw [hn2]; omega) hw2 ?_; intro v3 w3 o3 hg3 _; have o3' := HF3.out _ _ o3; have ck := u8_str o3'; have HO3 := hide o3'; have HG3 := hide hg3; clear o3 o3' hg3)
  refine (unhide HS _).mono ?_
  rintro e w' ⟨rfl, hw⟩
  obtain rfl := hw.symm
  have HB3 : Hid (Below w.heap.size w w3) := HB2.out.grown HG3.out hw2 (fun q hq => (row_lt HO2.out q hq).1)
  have HA4' := hide (HA4.out w3 v3 HB3.out.size HO3.out)
  clear HS HA4 ck
  go_wp2_with fail
  refine (unhide HA4').mono ?_
  rintro e w4 ⟨v4, rfl, o4, hb4, _⟩
  have ck := u8_str o4
  have HB4 : Hid (Below w.heap.size w w4) := HB3.out.trans hb4
  clear o4 hb4 HA4'
  go_wp2_with fail
  go_ret2
  refine ⟨HB4.out, .inl ⟨HY.out, ?_⟩⟩
  rw [Int.toNat_natCast]
  rfl
end Go.Proofs.YtmmflekajbeamaaGreatDoor
