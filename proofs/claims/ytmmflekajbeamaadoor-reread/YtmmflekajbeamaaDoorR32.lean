/-
  The calls of the law Reread, each at what it is called with there: Seal, Block, Translate, number, Scan.
  The law Reread's two lists, as they lie in memory: where the frames end, and the entries that were told.
  The law Reread's bytes: a text as a list of bytes of its own, one of them turned, and a text again.
  THE LAW Reread, walked.
-/
import Derived.Test.YtmmflekajbeamaaDoorR19
import Derived.Test.YtmmflekajbeamaaDoorR24
import Derived.Test.YtmmflekajbeamaaDoorR29
import Derived.Test.YtmmflekajbeamaaDoorR31
import Derived.Lib.ConvBytes
namespace Go.Proofs.YtmmflekajbeamaaDoor
open Go.RowKit

theorem seal_ok (k : Nat) (p : List UInt8) (w : World) (h1 : 1 ≤ k) (h2 : k ≤ 3) (hp : p.length ≤ 200) :
    Calls Tryd.prog 35 #[.int .i64 (k : Int), .string (bya p)] w fun e' w' => e' = .returned (.tuple #[.string (bya (frT k p)), .int .i64 0]) ∧ Below w.heap.size w w' :=
  (cribSeal_any (k : Int) (bya p) w).mono fun e w' h => by
    obtain ⟨hb, ⟨_, rfl⟩ | ⟨hn, _⟩⟩ := h
    · exact ⟨by rw [lst_bya, Int.toNat_natCast], hb⟩
    · exact absurd ⟨by omega, by omega, by rw [bya_size]; exact hp⟩ hn
theorem blockAt_ok {mem : List Int} (hm : WL 128 mem) (pc i : Nat) (w : World) (ht : Tab w) :
    Calls Tryd.prog 25 #[.agg (S mem), .int .i64 (((pc + 17 * i) % 128 : Nat) : Int)] w fun e' w' => e' = .returned (.tuple #[.string (bya (enX mem pc i).1), .int .i64 0]) ∧ Below w.heap.size w w' :=
  (cribBlock_any mem (((pc + 17 * i) % 128 : Nat) : Int) w ht hm.1).mono fun e w' h => by
    obtain ⟨hb, ⟨_, rfl⟩ | ⟨hn, _⟩⟩ := h
    · exact ⟨by rw [Int.toNat_natCast]; rfl, hb⟩
    · exact absurd ⟨WL_allW hm, by omega, by omega⟩ hn
theorem translate_ok {mem : List Int} (hm : WL 128 mem) (pc i : Nat) (w : World) (ht : Tab w) :
    Calls Tryd.prog 26 #[.string (bya (enX mem pc i).1)] w fun e' w' => e' = .returned (.tuple #[.string (bya (enX mem pc i).2), .int .i64 0]) ∧ Below w.heap.size w w' := by
  have hok : blkOK (bya (enX mem pc i).1) := (blkB_iff _).1 (enX_ok hm pc i).blk
  have hsz : (bya (enX mem pc i).1).size ≤ maxLen := by have := hok.2.1; unfold maxLen; omega
  exact (cribTranslate_any (bya (enX mem pc i).1) w ht hsz).mono fun e w' h => by
    obtain ⟨hb, ⟨_, rfl⟩ | ⟨hn, _⟩⟩ := h
    · exact ⟨rfl, hb⟩
    · exact absurd hok hn
/-- The area told, a dash and junk of any length: Scan reads the area. -/
theorem scanDash_ok (g : Nat) (ws : List EntN) (junk : ByteArray) (w : World) (ht : Tab w) (h0 : 0 < g) (h1 : g < 4294967296) (hx : ∀ x ∈ ws, EntOK x) (hw : ws.length ≤ 8) (hl : (areaT g ws).length ≤ 100000) (hj : junk.size ≤ 4611686018427000000) :
    Calls Tryd.prog 37 #[.string (bya (areaT g ws) ++ ⟨#[45]⟩ ++ junk)] w fun e' w' => Below w.heap.size w w' ∧ ∃ v, e' = .returned (.agg (arV g false (areaT g ws).length v)) ∧ w'.ownsRow w.heap.size 72 2 v ws.length (knCs ws) := by
  have he : lst (bya (areaT g ws) ++ ⟨#[45]⟩ ++ junk) = areaT g ws ++ 45 :: lst junk := by
    have : bya (areaT g ws) ++ ⟨#[45]⟩ ++ junk = bya (areaT g ws ++ 45 :: lst junk) := by
      have e1 : (⟨#[45]⟩ : ByteArray) = bya [45] := rfl
      conv => lhs; rw [e1, bya_app, ← bya_lst junk, bya_app, List.append_assoc]
      rfl
    rw [this, lst_bya]
  have hsc := scan_dash g ws (lst junk) h0 h1 hx
  have hsz : (bya (areaT g ws) ++ ⟨#[45]⟩ ++ junk).size ≤ 4611686018427387904 := by
    rw [← lst_len, he, List.length_append, List.length_cons, lst_len]
    omega
  refine (cribScan_any _ w ht hsz (by rw [he, hsc]; show ws.length ≤ _; omega)).mono fun e w' h => ?_
  obtain ⟨hb, v, rfl, ho⟩ := h
  rw [he, hsc] at ho ⊢
  exact ⟨hb, v, rfl, ho⟩
/-- The area told with one byte turned. -/
theorem scanTurned_ok (l : List UInt8) (gen good : Nat) (w : World) (ht : Tab w) (hl : l.length ≤ 100000) (hgn : (scan l).gen = gen) (hgd : (scan l).good = good) (hw : (scan l).whole = false) (hls : (scan l).list.length ≤ 8) :
    Calls Tryd.prog 37 #[.string (bya l)] w fun e' w' => Below w.heap.size w w' ∧ ∃ v, e' = .returned (.agg (arV gen false good v)) ∧ v.oneCell' = true := by
  refine (cribScan_any (bya l) w ht (by rw [bya_size]; omega) (by rw [lst_bya]; omega)).mono fun e w' h => ?_
  obtain ⟨hb, v, rfl, ho⟩ := h
  rw [lst_bya] at *
  rw [hgn, hgd, hw]
  exact ⟨hb, v, rfl, own_one ho⟩
end Go.Proofs.YtmmflekajbeamaaDoor

namespace Go.Proofs.YtmmflekajbeamaaDoor
open Go.RowKit

theorem own_apart {w : World} {B B' : Nat} {e e' : TypeId} {k k' : Nat} {v v' : Value} {n n' : Nat} {xs xs' : List Value} (h : w.ownsRow B e k v n xs) (h' : w.ownsRow B' e' k' v' n' xs') (he : e ≠ e') : ∀ g, v.ownBlock = some g → some g ≠ v'.ownBlock := by
  intro g hg
  rcases h.2 with ⟨rfl, _⟩ | ⟨g1, c1, r1, rfl, _, hh1, _⟩
  · cases hg
  · rcases h'.2 with ⟨rfl, _⟩ | ⟨g2, c2, r2, rfl, _, hh2, _⟩
    · exact fun h => by cases h
    · intro heq
      have a1 : g1 = g := Option.some.inj hg
      have a2 : g = g2 := Option.some.inj heq
      subst a1 a2
      rw [hh1] at hh2
      cases hh2
      exact he rfl
theorem own_by {w w' : World} {B : Nat} {e : TypeId} {k : Nat} {v : Value} {n : Nat} {xs : List Value} {row : Option Nat} (h : w.ownsRow B e k v n xs) (hg : w.grownBy w' row) (hne : ∀ g, v.ownBlock = some g → some g ≠ row) : w'.ownsRow B e k v n xs :=
  ownsRow_keep h (fun g hg' => hg.block g (row_lt h g hg').2 (hne g hg'))
def endCs (ws : List EntN) (i : Nat) : List Value := (List.range (i + 1)).map fun j => Value.int .i64 (endA ws j : Int)
theorem endCs_succ (ws : List EntN) (i : Nat) : endCs ws (i + 1) = endCs ws i ++ [.int .i64 (endA ws (i + 1) : Int)] := by unfold endCs; rw [List.range_succ, List.map_append]; rfl
structure RL (B : Nat) (ws : List EntN) (i : Nat) (ve vw : Value) (w : World) : Prop where
  ends : w.ownsRow B 3 1 ve (i + 1) (endCs ws i)
  want : w.ownsRow B 72 2 vw i (knCs (ws.take i))
theorem RL.up {B : Nat} {ws : List EntN} {i : Nat} {ve vw : Value} {w w' : World} (h : RL B ws i ve vw w) (hb : Below w.heap.size w w') : RL B ws i ve vw w' := ⟨own_grow h.ends hb, own_grow h.want hb⟩
theorem RL.wantApp {B : Nat} {ws : List EntN} {k : Nat} {ve vw : Value} {w4 w5 : World} {o : Obj} (h : RL B ws k ve vw w4) (hg : (w4.alloc o).grownBy w5 vw.ownBlock) :
    w5.ownsRow B 3 1 ve (k + 1) (endCs ws k) ∧ ∀ j, j < B → j < w4.heap.size → w5.heap[j]? = w4.heap[j]? := by
  refine ⟨own_by (h.ends.alloc o) hg (own_apart (h.ends.alloc o) (h.want.alloc o) (by decide)), fun j h1 h2 => ?_⟩
  refine (hg.block j (by rw [size_alloc1]; omega) (fun e => ?_)).trans (Below.heap_alloc w4 o j h2)
  have := (row_lt h.want j e.symm).1
  omega
theorem RL.endsApp {B : Nat} {ws : List EntN} {k : Nat} {ve vn : Value} {w5 w6 : World} {o : Obj} {n : Nat} {xs : List Value} (he : w5.ownsRow B 3 1 ve (k + 1) (endCs ws k)) (hw : w5.ownsRow B 72 2 vn n xs) (hg : (w5.alloc o).grownBy w6 ve.ownBlock) :
    w6.ownsRow B 72 2 vn n xs ∧ ∀ j, j < B → j < w5.heap.size → w6.heap[j]? = w5.heap[j]? := by
  refine ⟨own_by (hw.alloc o) hg (own_apart (hw.alloc o) (he.alloc o) (by decide)), fun j h1 h2 => ?_⟩
  refine (hg.block j (by rw [size_alloc1]; omega) (fun e => ?_)).trans (Below.heap_alloc w5 o j h2)
  have := (row_lt he j e.symm).1
  omega
theorem below_app {B : Nat} {w a b : World} {o : Obj} {v : Value} {e : TypeId} {k n : Nat} {xs : List Value} (hb : Below B w a) (hB : B ≤ a.heap.size) (hv : a.ownsRow (B + 1) e k v n xs) (hg : (a.alloc o).grownBy b v.ownBlock) : Below B w b :=
  (hb.alloc hB o).grown hg (by rw [size_alloc1]; omega) (fun j hj => by have := (row_lt hv j hj).1; omega)
theorem ents_take (mem : List Int) (pc N k : Nat) (h : k ≤ N) : (ents mem pc N).take k = ents mem pc k := by
  unfold ents
  rw [← List.map_take, List.take_range, Nat.min_eq_left h]
theorem ents_bound : ∀ ws : List EntN, (∀ x ∈ ws, EntOK x) → (entsT ws).length ≤ 208 * ws.length
  | [], _ => by simp [entsT]
  | x :: ws, h => by
    have h1 := ents_bound ws (fun y hy => h y (by simp [hy]))
    have h2 := (h x (by simp)).all
    have e : entsT (x :: ws) = frT 2 (entP x) ++ entsT ws := by simp [entsT]
    rw [e, List.length_append, frT_len, List.length_cons]
    omega
theorem area_bound (g : Nat) (ws : List EntN) (h : ∀ x ∈ ws, EntOK x) : (areaT g ws).length ≤ 12 + 208 * ws.length := by
  rw [area_len]
  have := ents_bound ws h
  omega
theorem entP_join (x : EntN) : bya (numB 1 ((bya x.1).size / 4)) ++ bya x.1 ++ bya x.2 = bya (entP x) := by
  rw [bya_app, bya_app, bya_size, List.append_assoc]
  rfl
end Go.Proofs.YtmmflekajbeamaaDoor

namespace Go.Proofs.YtmmflekajbeamaaDoor
open Go.RowKit

theorem meas {k m : Nat} {x : Int} (hx : x = (m : Int) + 1) (h : m < k) : k - (intOf (.int .i64 x)).toNat < k - (intOf (.int .i64 (m : Int))).toNat := by
  subst hx
  simp only [intOf]
  omega
theorem castS (m : Nat) : (m : Int) + 1 = ((m + 1 : Nat) : Int) := by omega
theorem wrapS {m k : Nat} (h : m < k) (hk : k ≤ 9) : wrap64 ((m : Int) + 1) = (m : Int) + 1 := by unfold wrap64; omega
theorem castN (m : Nat) : ((1 + m : Nat) : Int) = 1 + (m : Int) := by omega
theorem modS (m : Nat) (h : 1 + m ≤ 255) : (1 + (m : Int)) % 256 = 1 + (m : Int) := by omega
theorem gdA_le (ws : List EntN) (k : Nat) : ∀ i, gdA ws k i ≤ k
  | 0 => Nat.zero_le _
  | i + 1 => by
    rw [gdA]
    split
    · assumption
    · exact gdA_le ws k i
theorem wrapK {m : Nat} (h : m ≤ 2000) (c : Int) (h0 : 0 ≤ c) (h1 : c ≤ 9) : wrap64 ((m : Int) + c) = (m : Int) + c := by unfold wrap64; omega
theorem case3 {kk gd k' : Nat} (h : k' = if kk = gd + 2 ∨ kk = gd + 3 then gd + 4 else kk) : (kk = gd + 2 ∧ k' = gd + 4) ∨ (kk ≠ gd + 2 ∧ kk = gd + 3 ∧ k' = gd + 4) ∨ (kk ≠ gd + 2 ∧ kk ≠ gd + 3 ∧ k' = kk) := by
  rw [h]
  split <;> omega
theorem pv_bd {pv : Nat} (h : (pv : Int) < 255) : 1 ≤ 1 + pv ∧ 1 + pv ≤ 255 := by omega
theorem gd_bd {ws : List EntN} {k kk gd t : Nat} (h : gd = gdA ws kk (k + 1)) (h1 : (kk : Int) < (t : Int)) (h2 : t ≤ 2000) : gd ≤ 2000 := by
  have := gdA_le ws kk (k + 1)
  omega
theorem set_bd {A : List UInt8} {t k : Nat} {b : UInt8} (h : t = A.length) (h2 : t ≤ 2000) : (A.set k b).length ≤ 100000 := by rw [List.length_set]; omega
theorem kT_lt {A : List UInt8} {t k : Nat} (h : t = A.length) (h2 : k < A.length) : (k : Int) < (t : Int) := by omega
theorem wrapPv {pv : Nat} (h : 1 + pv ≤ 255) : IntKind.u8.wrap (IntKind.i64.wrap (1 + (pv : Int))) = ((1 + pv : Nat) : Int) := by
  simp only [IntKind.wrap, IntKind.signed, IntKind.bits]
  simp
  omega
theorem ne_gy {x m : Nat} (h : ¬ x = 1 + m) : ((x : Int) == 1 + (m : Int)) = false := by
  rw [beq_eq_false_iff_ne]
  omega
theorem ne2 {x m : Nat} (h : x ≠ m + 2) : ((x : Int) == (m : Int) + 2) = false := by
  rw [beq_eq_false_iff_ne]
  omega
theorem ne3 {x m : Nat} (h : x ≠ m + 3) : ((x : Int) == (m : Int) + 3) = false := by
  rw [beq_eq_false_iff_ne]
  omega
theorem xor_u8 (x : UInt8) (y : Nat) (h1 : 1 ≤ y) (h2 : y ≤ 255) : ∃ b : UInt8, bits .xor .u8 (x.toNat : Int) (y : Int) = (b.toNat : Int) ∧ b ≠ x := by
  have hx := x.toNat_lt
  have hl : x.toNat ^^^ y < 256 := Nat.xor_lt_two_pow (n := 8) hx (by omega)
  have hb : (UInt8.ofNat (x.toNat ^^^ y)).toNat = x.toNat ^^^ y := by
    rw [UInt8.toNat_ofNat']
    exact Nat.mod_eq_of_lt hl
  refine ⟨UInt8.ofNat (x.toNat ^^^ y), ?_, fun e => ?_⟩
  · have e1 : (BitVec.ofInt 8 (x.toNat : Int)).toNat = x.toNat := by
      rw [BitVec.ofInt_natCast, BitVec.toNat_ofNat]; exact Nat.mod_eq_of_lt hx
    have e2 : (BitVec.ofInt 8 (y : Int)).toNat = y := by
      rw [BitVec.ofInt_natCast, BitVec.toNat_ofNat]; exact Nat.mod_eq_of_lt (by omega)
    show IntKind.u8.wrap ((BitVec.ofInt 8 (x.toNat : Int) ^^^ BitVec.ofInt 8 (y : Int)).toNat : Int) = _
    rw [BitVec.toNat_xor, e1, e2, hb]
    simp [IntKind.wrap, IntKind.signed, IntKind.bits]
    omega
  · have h3 : x.toNat ^^^ y = x.toNat := by rw [← hb, e]
    have h4 : y = 0 := by
      have : x.toNat ^^^ (x.toNat ^^^ y) = x.toNat ^^^ x.toNat := by rw [h3]
      rwa [← Nat.xor_assoc, Nat.xor_self, Nat.zero_xor] at this
    omega
/-- The bytes of l lie at g, and none of them stands still. -/
structure BtA (w : World) (g : Nat) (l : List UInt8) : Prop where
  cell : ∀ j (h : j < l.length), w.cell? ⟨g, j, none⟩ = some (.int .u8 ((l[j]).toNat : Int))
  free : ∀ j, j < l.length → w.frozen? ⟨g, j, none⟩ = false
theorem btA_new (w : World) (l : List UInt8) : BtA (Lib.bytesWorld w 5 (bya l)) w.heap.size l := by
  refine ⟨fun j h => ?_, fun j h => ?_⟩
  · rw [Lib.bytesWorld_cell w _ _ j (by rw [bya_size]; exact h)]
    simp [bya, List.getD, h]
  · unfold World.frozen?
    rw [Lib.bytesWorld_at_new]
    have : l.length ≤ (Lib.bytesCells w 5 (bya l)).size := by unfold Lib.bytesCells; rw [Array.size_append, Array.size_map]; simp [bya]
    simp
    omega
theorem BtA.set {w : World} {g : Nat} {l : List UInt8} (h : BtA w g l) (k : Nat) (b : UInt8) (hk : k < l.length) : BtA (w.setCell ⟨g, k, none⟩ (.int .u8 (b.toNat : Int))) g (l.set k b) := by
  refine ⟨fun j hj => ?_, fun j hj => ?_⟩
  · rw [List.length_set] at hj
    by_cases e : k = j
    · subst e
      rw [World.cell?_setCell_same (h := h.cell k hk)]
      simp
    · rw [World.cell?_setCell_other (a := ⟨g, k, none⟩) (b := ⟨g, j, none⟩) (h := fun q => e (by cases q; rfl)), h.cell j hj]
      rw [List.getElem_set_ne e]
  · rw [List.length_set] at hj
    rw [World.frozen?_setCell]
    exact h.free j hj
theorem BtA.str {w : World} {g : Nat} {l : List UInt8} (h : BtA w g l) (cap : Nat) : (convert 76 9 (.slice (some ⟨g, 0, none⟩) l.length cap)).run Tryd.prog w = .ok (.string (bya l)) w := by
  refine run_convert_bytes_back _ _ _ 5 ⟨g, 0, none⟩ cap l Tryd.underlying76 Tryd.underlying5 Tryd.underlying9 (fun j hj => ?_)
  have e : (⟨g, 0, none⟩ : Addr).add j = ⟨g, j, none⟩ := by simp [Addr.add]; omega
  rw [e, h.cell j hj]
theorem BtA.up {w w' : World} {g : Nat} {l : List UInt8} (h : BtA w g l) (hb : w'.heap[g]? = w.heap[g]?) : BtA w' g l :=
  ⟨fun j hj => (World.cell?_of_block hb).trans (h.cell j hj), fun j hj => (World.frozen?_of_block hb).trans (h.free j hj)⟩
theorem kn_cellsN {w : World} {B g cap k : Nat} {l : List (List UInt8 × List UInt8)} (hl : l.length = k) (h : w.ownsRow B 72 2 (.slice (some ⟨g, 0, none⟩) k cap) k (knCs l)) (n : Nat) (x : List UInt8 × List UInt8) (hn : l[n]? = some x) :
    w.cell? ⟨g, n * 2, none⟩ = some (.string (bya x.1)) ∧ w.cell? ⟨g, n * 2 + 1, none⟩ = some (.string (bya x.2)) := by
  subst hl
  exact kn_cells h n x hn
theorem end_cells {w : World} {B k : Nat} {v : Value} {ws : List EntN} (h : w.ownsRow B 3 1 v (k + 1) (endCs ws k)) {g cap : Nat} (hv : v = .slice (some ⟨g, 0, none⟩) (k + 1) cap) (n : Nat) (hn : n < k + 1) : w.cell? ⟨g, n, none⟩ = some (.int .i64 (endA ws n : Int)) := by
  subst hv
  rw [h.cellAt n (by omega)]
  unfold endCs
  rw [List.getElem?_map, List.getElem?_range hn]
  rfl
theorem below_bytes {B : Nat} {w a : World} (h : Below B w a) (hB : B ≤ a.heap.size) (e : TypeId) (s : ByteArray) : Below B w (Lib.bytesWorld a e s) :=
  h.trans ⟨rfl, rfl, rfl, by rw [Lib.bytesWorld_size]; omega, fun j hj => Lib.bytesWorld_at_old a e s j (by omega)⟩
end Go.Proofs.YtmmflekajbeamaaDoor

namespace Go.Proofs.YtmmflekajbeamaaDoor
open Go.RowKit

set_option maxRecDepth 100000 in
set_option maxHeartbeats 8000000 in
theorem reread_any (z : List Int) (n g at' v : Int) (junk : ByteArray) (w : World) (ht : Tab w) (hz : z.length = 138) (hb : ∀ x ∈ z, -9223372036854775808 ≤ x ∧ x ≤ 9223372036854775807)
    (hn : -9223372036854775808 ≤ n ∧ n ≤ 9223372036854775807) (hg : -9223372036854775808 ≤ g ∧ g ≤ 9223372036854775807) (hat : -9223372036854775808 ≤ at' ∧ at' ≤ 9223372036854775807) (hv : -9223372036854775808 ≤ v ∧ v ≤ 9223372036854775807) (hj : junk.size ≤ 4611686018427000000) :
    Calls Tryd.prog 11 #[.agg (S z), .int .i64 n, .int .i64 g, .int .i64 at', .int .i64 v, .string junk] w fun e' w' => e' = .returned (.bool true) ∧ Below w.heap.size w w' := by
  have HT := hide (fun w' (hb : Below w.heap.size w w') => ht.below ht.pos hb)
  obtain ⟨W1, hW1⟩ : ∃ W1, W1 = w.alloc (.cells (S z) 34) := ⟨_, rfl⟩
  have HW := hide hW1
  have r1 : RowI W1 w.heap.size 34 z := by unfold RowI; rw [hW1, _root_.Go.heap_alloc_new]
  have b1 : Below w.heap.size w W1 := by rw [hW1]; exact (Below.refl _ _).alloc (Nat.le_refl _) _
  have hz1 := r1.lt
  have HK := hide (fun w' (hb : Below w.heap.size w w') => known_true w' (HT.out _ hb))
  have HF := hide (fit_any z W1 hz hb)
  obtain ⟨regs, mem, pc, hfz, hr, hm, hpc⟩ := fitZ_form hz
  rw [← stZ_zero hpc] at hfz
  have hlF : (fitZ z).length = 138 := by rw [hfz]; exact stZ_len hr hm hpc 0
  obtain ⟨gm, hgm, hgl⟩ := pick_nat g 4294967295 (by decide)
  have HPg := hide (fun w' => pick_any g 4294967295 w' hg.1 hg.2 (by decide) (by decide))
  rw [hgm] at HPg
  obtain ⟨N, hN, hN8⟩ := pick_nat n 8 (by decide)
  have HPn := hide (fun w' => pick_any n 8 w' hn.1 hn.2 (by decide) (by decide))
  rw [hN] at HPn
  have HNu := hide (fun w' => keepNumber_any (1 + gm) 4 w' (by decide) (by omega))
  rw [show ((1 + gm : Nat) : Int) = 1 + (gm : Int) by omega] at HNu
  have HS1 := hide (fun w' => seal_ok 1 (numB 4 (1 + gm)) w' (by decide) (by decide) (by rw [numB_len]; decide))
  obtain ⟨T0, hT0⟩ : ∃ T0, T0 = bya (frT 1 (numB 4 (1 + gm))) := ⟨_, rfl⟩
  have hT0s : T0.size = 12 := by rw [hT0, bya_size, frT_len, numB_len]
  rw [← hT0] at HS1
  have HT0 : Hid (T0 = bya (areaT (1 + gm) ((ents mem pc N).take 0))) := by unfold Hid; rw [hT0]; simp [areaT, entsT]
  have HE0 : Hid ((T0.size : Int) = (endA (ents mem pc N) 0 : Int)) := by unfold Hid; rw [hT0s]; simp [endA, entsT]
  have hT0b : T0.size ≤ 12 := by omega
  clear hT0 hT0s
  generalize bya (numB 4 (1 + gm)) = G at *
  have q1 : ((stZ regs mem pc 0).drop 8).take 128 = mem := by rw [stZ_zero hpc]; exact mkZ_mems _ _ hr.1 hm.1
  have q6 : gz (stZ regs mem pc 0) 136 = (pc : Int) := by rw [stZ_zero hpc]; exact mkZ_pc hr.1 hm.1
  have s128 : (Tryd.prog.info? 32).map (·.size) = some (mem.map (Value.int .i64)).length := by rw [size128, List.length_map, hm.1]
  have HS128 := hide s128
  rw [hfz] at HF hlF
  generalize stZ regs mem pc 0 = zf at *
  have HR1 := hide r1; have HB1 := hide b1
  have rI := r1.isRow 138 hz
  have rD' := r1.rowD
  rw [hW1] at rI rD'
  have HM := hide hm
  clear ht hb hr hm s128 hW1 r1 b1 hfz hgm hN hn hg
  go_enter Tryd.func11, Tryd.ntmps11
  go_wp2_with (refine wpList_load_S rfl _ rfl w.heap.size rfl rI _ rD' ?_)
  rw [← HW.out]
  refine (unhide HF).mono ?_
  rintro e w3 ⟨rfl, hb3⟩
  have r3 := HR1.out.keep (hb3.block _ hz1)
  have hz3 := hb3.size
  have rI3 := r3.isRow 138 hz
  obtain ⟨W4, hW4⟩ : ∃ W4, W4 = w3.setRow w.heap.size (S zf) := ⟨_, rfl⟩
  have HW4 := hide hW4
  have r4 : RowI W4 w.heap.size 34 zf := by rw [hW4]; exact setRow_heap w3 _ _ _ _ (0, 0) r3
  have b4 : Below w.heap.size w W4 := by rw [hW4]; exact below_setRow (HB1.out.trans (hb3.mono (by omega))) (Nat.le_refl _) _
  have hz4 := r4.lt
  have HR4 := hide r4; have HB4 := hide b4
  clear hb3 r3 hW4 r4 b4 rI rD'
  go_wp2_with (refine wpList_store_S rfl _ _ rfl w.heap.size rfl zf rfl hlF rI3 W4 (by rw [← HW4.out]) ?_)
  refine (unhide HK _ HB4.out).mono ?_
  rintro e w5 ⟨rfl, hb5⟩
  have HR5 := hide (HR4.out.keep (hb5.block _ hz4))
  have HB5 : Hid (Below w.heap.size w w5) := HB4.out.trans (hb5.mono (by omega))
  have hz5 := hb5.size
  clear hb5 HK
  go_wp2_with fail
  refine (unhide HPg _).mono ?_
  rintro e w' ⟨rfl, hw⟩
  obtain rfl := hw.symm
  clear HPg
  go_wp2_with fail
  refine (unhide HNu _).mono ?_
  rintro e w6 ⟨rfl, hb6⟩
  have HR6 := hide (HR5.out.keep (hb6.block _ (by omega)))
  have HB6 : Hid (Below w.heap.size w w6) := HB5.out.trans (hb6.mono (by omega))
  have hz6 := hb6.size
  clear hb6 HNu
  go_wp2_with fail
  refine (unhide HS1 _).mono ?_
  rintro e w7 ⟨rfl, hb7⟩
  have HR7 := hide (HR6.out.keep (hb7.block _ (by omega)))
  have HB7 : Hid (Below w.heap.size w w7) := HB6.out.trans (hb7.mono (by omega))
  have hz7 := hb7.size
  clear hb7 HS1
  go_wp2_with fail
  obtain ⟨W8, hW8⟩ : ∃ W8, W8 = w7.alloc (.cells #[.int .i64 (T0.size : Int)] 3) := ⟨_, rfl⟩
  have HW8 := hide hW8
  have HI8 : Hid (RL (w.heap.size + 1) (ents mem pc N) 0 (.slice (some ⟨w7.heap.size, 0, none⟩) 1 1) (.slice none 0 0) W8 ∧ RowI W8 w.heap.size 34 zf ∧ Below w.heap.size w W8) := by
    have hb8 : Below w7.heap.size w7 W8 := by rw [hW8]; exact (Below.refl _ _).alloc (Nat.le_refl _) _
    refine ⟨⟨⟨rfl, .inr ⟨w7.heap.size, 1, _, rfl, by omega, by rw [hW8]; exact _root_.Go.heap_alloc_new w7 _, Nat.le_refl _, by unfold maxLen; omega, rfl, ?_⟩⟩, World.ownsRow_nil _ _ _ _⟩, HR7.out.keep (hb8.block _ HR7.out.lt), HB7.out.trans (hb8.mono (by omega))⟩
    rw [HE0.out]
    rfl
  clear hW8 HR7 HB7 HR6 HB6 HR5 HB5 HR4 HB4 HR1 HB1 rI3 HF
  rw [← HW8.out]
  obtain ⟨ws, hws⟩ : ∃ ws, ws = ents mem pc N := ⟨_, rfl⟩
  have HWs := hide hws
  rw [← hws] at HI8 HT0 HE0
  clear hws
  go_loopw [13, 14, 16, 17, 18] (fun ok t ends want i wr => ∃ k : Nat, k ≤ N ∧ ok = .bool true ∧ t = .string (bya (areaT (1 + gm) (ws.take k))) ∧ i = .int .i64 k ∧ Hid (RL (w.heap.size + 1) ws k ends want wr ∧ RowI wr w.heap.size 34 zf ∧ Below w.heap.size w wr)) (fun _ _ _ _ i _ => N - (intOf i).toNat)
  case atStart => exact ⟨0, Nat.zero_le _, rfl, by rw [HT0.out], rfl, HI8.out⟩
  case round =>
    obtain ⟨k, hk, rfl, rfl, rfl, HI⟩ := hrel
    obtain ⟨T, hT⟩ : ∃ T, T = bya (areaT (1 + gm) (ws.take k)) := ⟨_, rfl⟩
    rw [← hT]
    have HTk := hide hT
    clear hT
    go_wp2_with fail
    refine (unhide HPn _).mono ?_
    rintro e w' ⟨rfl, hw⟩
    obtain rfl := hw.symm
    by_cases hlt : k < N
    · have hlt' : (k : Int) < (N : Int) := by omega
      have hr := HI.out.2.1
      have g4 := range_row hr 8 128 (by omega)
      rw [q1] at g4
      have c4 := hr.cell 136 (by omega)
      rw [q6] at c4
      have HG4 := hide g4
      have hlw := hr.lt
      have hok := enX_ok HM.out pc k
      have HBl := hide (fun w' (hb : Below w.heap.size w w') => blockAt_ok HM.out pc k w' (HT.out _ hb))
      rw [show (((pc + 17 * k) % 128 : Nat) : Int) = ((pc : Int) + 17 * (k : Int)) % 128 by omega] at HBl
      have HTr := hide (fun w' (hb : Below w.heap.size w w') => translate_ok HM.out pc k w' (HT.out _ hb))
      have HNu2 := hide (fun w' => keepNumber_any ((bya (enX mem pc k).1).size / 4) 1 w' (by decide) (by rw [bya_size]; have := hok.few; omega))
      rw [show (((bya (enX mem pc k).1).size / 4 : Nat) : Int) = ((bya (enX mem pc k).1).size : Int) / 4 by omega] at HNu2
      have HSe := hide (fun w' => seal_ok 2 (entP (enX mem pc k)) w' (by decide) (by decide) hok.all)
      rw [← entP_join] at HSe
      have HNx : Hid (ws.take (k + 1) = ws.take k ++ [enX mem pc k]) := by unfold Hid; rw [HWs.out, ents_take _ _ _ _ (by omega), ents_take _ _ _ _ (by omega), ents_succ]
      have hTs : T.size ≤ 2000 := by
        rw [HTk.out, bya_size, HWs.out, ents_take _ _ _ _ (by omega)]
        have := area_bound (1 + gm) (ents mem pc k) (ents_ok HM.out pc k)
        rw [ents_len] at this
        omega
      have hFs : (bya (frT 2 (entP (enX mem pc k)))).size ≤ 208 := by rw [bya_size, frT_len]; have := hok.all; omega
      have hDs : (bya (enX mem pc k).1).size ≤ 32 := by rw [bya_size]; exact hok.few
      have hPs : (bya (enX mem pc k).2).size ≤ 200 := by
        rw [bya_size]
        have h := hok.all
        unfold entP at h
        simp only [List.length_append] at h
        omega
      have hEs : (bya (numB 1 ((bya (enX mem pc k).1).size / 4))).size ≤ 1 := by rw [bya_size, numB_len]; omega
      have HTF : Hid (T ++ bya (frT 2 (entP (enX mem pc k))) = bya (areaT (1 + gm) (ws.take (k + 1)))) := by unfold Hid; rw [HTk.out, HNx.out, area_snoc, bya_app]
      have HKn : Hid (knCs (ws.take k) ++ [.string (bya (enX mem pc k).1), .string (bya (enX mem pc k).2)] = knCs (ws.take (k + 1))) := by unfold Hid; rw [HNx.out]; simp [knCs]
      have HEn : Hid ((T.size : Int) + ((bya (frT 2 (entP (enX mem pc k)))).size : Int) = (endA ws (k + 1) : Int)) := by
        unfold Hid
        have h1 : (T ++ bya (frT 2 (entP (enX mem pc k)))).size = endA ws (k + 1) := by
          rw [HTF.out, bya_size, area_len]
          rfl
        rw [ByteArray.size_append] at h1
        omega
      generalize bya (frT 2 (entP (enX mem pc k))) = F at *
      generalize bya (numB 1 ((bya (enX mem pc k).1).size / 4)) = E at *
      generalize bya (enX mem pc k).1 = D at *
      generalize bya (enX mem pc k).2 = P at *
      have hdq : (0 : Int) ≤ (D.size : Int) / 4 := by omega
      obtain ⟨inf, hinf, hzi, hsz1, hby⟩ := infoInt
      have HInf := hide hinf; have HZi := hide hzi; have HSz := hide hsz1; have HBy := hide hby
      clear hinf hzi hsz1 hby
      obtain ⟨inp, hinf, hzi, hsz1, hby⟩ := infoKn
      have HInp := hide hinf; have HZp := hide hzi; have HSp := hide hsz1; have HByp := hide hby
      clear hinf hzi hsz1 hby hr g4 hok
      go_wp2_with (refine wpList_load_midZ rfl 32 _ rfl w.heap.size 8 rfl mem _ HG4.out Tryd.underlying32 rfl HS128.out ?_)
      refine (unhide HBl _ HI.out.2.2).mono ?_
      rintro e w1 ⟨rfl, hb1⟩
      have HB1 : Hid (Below wr.heap.size wr w1) := hb1
      have hz1 := hb1.size
      have HBw1 : Hid (Below w.heap.size w w1) := HI.out.2.2.trans (hb1.mono (by omega))
      clear hb1 c4
      go_wp2_with fail
      refine (unhide HTr _ HBw1.out).mono ?_
      rintro e w2 ⟨rfl, hb2⟩
      have hz2 := hb2.size
      have HB2 : Hid (Below wr.heap.size wr w2) := HB1.out.trans (hb2.mono (by omega))
      clear hb2
      go_wp2_with fail
      refine (unhide HNu2 _).mono ?_
      rintro e w3 ⟨rfl, hb3⟩
      have hz3 := hb3.size
      have HB3 : Hid (Below wr.heap.size wr w3) := HB2.out.trans (hb3.mono (by omega))
      clear hb3
      go_wp2_with fail
      refine (unhide HSe _).mono ?_
      rintro e w4 ⟨rfl, hb4⟩
      have hz4 := hb4.size
      have hb4' := HB3.out.trans (hb4.mono (by omega))
      have HRL := hide (HI.out.1.up hb4')
      have HR4 := hide (HI.out.2.1.keep (hb4'.block _ hlw))
      have HB4 : Hid (Below w.heap.size w w4) := HI.out.2.2.trans (hb4'.mono (by omega))
      clear hb4 hb4' HI HB1 HB2 HB3 HBw1 HBl HTr HNu2 HSe HG4
      obtain ⟨wa, wc, hwa⟩ := owns_len HRL.out.want
      obtain ⟨ea, ec, hea⟩ := owns_len HRL.out.ends
      subst hwa hea
      go_wp2_with (first
        | (at_builtin; refine wpList_append_lies _ rfl _ _ 70 rfl (w.heap.size + 1) 72 inp _ 2 32 Tryd.underlying70 HInp.out HZp.out HSp.out HByp.out rfl (by decide) (.slice wa k wc) k (knCs (ws.take k)) rfl (HRL.out.want.alloc _) ⟨w4.heap.size, 0, none⟩ 1 1 [.string D, .string P] rfl rfl (World.news_of_block (_root_.Go.heap_alloc_new w4 _)) (fun u hu => by simp at hu; rcases hu with rfl | rfl <;> rfl) (by decide) (by unfold maxLen; omega) (by omega) (by rw [size_alloc1]; omega) (w4.heap.size + 1) (by rw [size_alloc1]) ?_
           intro g1 c1 w5 ho1 hg1 ha1 hl1
           have hA := RL.wantApp HRL.out hg1
           have hWt := ho1
           have HWt := hide hWt
           have HEd := hide hA.1
           have HR5 := hide (HR4.out.keep (hA.2 w.heap.size (by omega) (by omega)))
           have HB5 := hide (below_app HB4.out (by omega) HRL.out.want hg1)
           have hz5 : w.heap.size < w5.heap.size := HR5.out.lt
           clear hA hWt
           clear ho1 hg1 ha1)
        | (at_builtin; refine wpList_append_lies _ rfl _ _ 36 rfl (w.heap.size + 1) 3 inf _ 1 8 Tryd.underlying36 HInf.out HZi.out HSz.out HBy.out rfl (by decide) (.slice ea (k + 1) ec) (k + 1) (endCs ws k) rfl (HEd.out.alloc _) ⟨w5.heap.size, 0, none⟩ 1 1 [.int .i64 ((T.size : Int) + (F.size : Int))] rfl rfl (World.news_of_block (_root_.Go.heap_alloc_new w5 _)) (fun u hu => by simp at hu; subst hu; rfl) (by decide) (by unfold maxLen; omega) (by omega) (by rw [size_alloc1]; omega) (w5.heap.size + 1) (by rw [size_alloc1]) ?_
           intro g2 c2 w6 ho2 hg2 ha2 hl2
           have HEd2 := hide ho2
           have hA := RL.endsApp HEd.out HWt.out hg2
           have HWt2 := hide hA.1
           have HR6 := hide (HR5.out.keep (hA.2 w.heap.size (by omega) (by omega)))
           have HB6 := hide (below_app HB5.out (by omega) HEd.out hg2)
           clear hA
           clear ho2 hg2 ha2))
      have hE := HEd2.out
      rw [HEn.out, ← endCs_succ] at hE
      have hK := HWt2.out
      rw [HKn.out] at hK
      have hX : Value.string (T ++ F) = .string (bya (areaT (1 + gm) (ws.take (k + 1)))) := by rw [HTF.out]
      have HFin : Hid (RL (w.heap.size + 1) ws (k + 1) (.slice (some ⟨g2, 0, none⟩) (k + 1 + 1) c2) (.slice (some ⟨g1, 0, none⟩) (k + 1) c1) w6 ∧ RowI w6 w.heap.size 34 zf ∧ Below w.heap.size w w6) := ⟨⟨hE, hK⟩, HR6.out, HB6.out⟩
      clear hE hK
      refine ⟨⟨k + 1, hlt, ?_⟩, ?_⟩
      · refine ⟨rfl, hX, ?_⟩
        refine ⟨by go_num, ?_⟩
        exact HFin
      · simp only [intOf]
        omega
    · have hlt' : ¬ (k : Int) < (N : Int) := by omega
      obtain rfl : k = N := by omega
      have hwl : ws.length = k := by rw [HWs.out, ents_len]
      have htk : ws.take k = ws := by rw [← hwl]; exact List.take_length
      have hok : ∀ x ∈ ws, EntOK x := by rw [HWs.out]; exact ents_ok HM.out pc k
      have hab := area_bound (1 + gm) ws hok
      have hal := area_len (1 + gm) ws
      obtain ⟨A, hA⟩ : ∃ A, A = areaT (1 + gm) ws := ⟨_, rfl⟩
      rw [htk, ← hA] at HTk
      rw [← hA] at hab hal
      have hTs : T.size = A.length := by rw [HTk.out, bya_size]
      have HSc := hide (fun w' (hb : Below w.heap.size w w') => scanDash_ok (1 + gm) ws junk w' (HT.out _ hb) (by omega) (by omega) hok (by omega) (by rw [← hA]; omega) hj)
      rw [← hA, ← HTk.out, ← hTs, hwl] at HSc
      have h8 : ((T.size : Int) < 8) = False := by simp only [eq_iff_iff, iff_false]; omega
      have hT2 : T.size ≤ 2000 := by omega
      have HOk := hide hok; have HA := hide hA; have HTS := hide hTs; have HWl := hide hwl; have HTak := hide htk
      have HN8 : Hid (k ≤ 9 ∧ k + 1 ≤ 9) := ⟨by omega, by omega⟩
      obtain ⟨kk, hkk, hkl⟩ := pick_nat at' (T.size : Int) (by omega)
      have HPa := hide (fun w' => pick_any at' (T.size : Int) w' hat.1 hat.2 (by omega) (by omega))
      rw [hkk] at HPa
      obtain ⟨pv, hpv, hpvl⟩ := pick_nat v 255 (by decide)
      have HPv := hide (fun w' => pick_any v 255 w' hv.1 hv.2 (by decide) (by decide))
      rw [hpv] at HPv
      have HST : Hid (∀ (k' : Nat) (b : UInt8), (k' = if kk = gdA ws kk (ws.length + 1) + 2 ∨ kk = gdA ws kk (ws.length + 1) + 3 then gdA ws kk (ws.length + 1) + 4 else kk) → (areaT (1 + gm) ws)[k']? ≠ some b → _) := fun k' b h1 h2 => scan_turned (1 + gm) ws kk k' b (by omega) (by omega) hok (by rw [← hA, ← hTs]; omega) h1 h2
      rw [← hA, hwl] at HST
      have HKl := hide hkl; have HPl := hide hpvl
      clear hat hv hkk hpv hkl hpvl
      obtain ⟨TD, hTD⟩ : ∃ TD, TD = T ++ ⟨#[45]⟩ := ⟨_, rfl⟩
      obtain ⟨TJ, hTJ⟩ : ∃ TJ, TJ = TD ++ junk := ⟨_, rfl⟩
      have htds : TD.size = T.size + 1 := by rw [hTD, ByteArray.size_append]; rfl
      have c1 : ∀ w', (Op.stringOp .add T ⟨#[45]⟩).run Tryd.prog w' = .ok (.string TD) w' := fun w' => by
        rw [hTD]
        exact run_string_add_sum w' _ _ (by rw [show (⟨#[45]⟩ : ByteArray).size = 1 from rfl]; omega)
      have c2 : ∀ w', (Op.stringOp .add TD junk).run Tryd.prog w' = .ok (.string TJ) w' := fun w' => by
        rw [hTJ]
        exact run_string_add_sum w' _ _ (by omega)
      rw [← hTD, ← hTJ] at HSc
      obtain ⟨Gn, hGn⟩ : ∃ Gn, Gn = 1 + gm := ⟨_, rfl⟩
      rw [← hGn] at HSc
      have HGn := hide hGn
      obtain ⟨Ts, hTz⟩ : ∃ Ts, Ts = T.size := ⟨_, rfl⟩
      rw [← hTz] at HSc
      have HTz := hide hTz
      clear hok hA hTs hwl htk hab hal hlt' hTD hTJ htds hj hk hlt hN8 hGn hTz hz hlF q1 q6 hpc hT0b hz3 hz4 hz5 hz6 hz7 hgl
      obtain ⟨wa, wc, hwa⟩ := owns_len HI.out.1.want
      obtain ⟨ea, ec, hea⟩ := owns_len HI.out.1.ends
      subst hwa hea
      go_wp2_with fail
      refine (unhide HSc _ HI.out.2.2).mono ?_
      rintro e w1 ⟨hb1, v1, rfl, ho1⟩
      have zz := zero74
      have hone1 := arV_one Gn false Ts v1 (own_one ho1)
      obtain ⟨W1, hW1⟩ : ∃ W1, W1 = w1.alloc (.cells (arV Gn false Ts v1) 74) := ⟨_, rfl⟩
      have HW1 := hide hW1
      have hz1 := hb1.size
      have hbA : Below wr.heap.size wr W1 := by rw [hW1]; exact hb1.alloc hz1 _
      have r1 : W1.heap[w1.heap.size]? = some (.cells (arV Gn false Ts v1) 74 (0, 0)) := by rw [hW1, _root_.Go.heap_alloc_new]
      have HO1 : Hid (W1.ownsRow wr.heap.size 72 2 v1 k (knCs ws)) := by unfold Hid; rw [hW1]; exact ho1.alloc _
      have hzW : W1.heap.size = w1.heap.size + 1 := by rw [hW1, size_alloc1]
      have HWt : Hid (W1.ownsRow (w.heap.size + 1) 72 2 (.slice wa k wc) k (knCs ws)) := by
        have h := own_grow HI.out.1.want hbA
        rw [HTak.out] at h
        exact h
      have HEd : Hid (W1.ownsRow (w.heap.size + 1) 3 1 (.slice ea (k + 1) ec) (k + 1) (endCs ws k)) := own_grow HI.out.1.ends hbA
      have HBW : Hid (Below w.heap.size w W1) := HI.out.2.2.trans (hbA.mono HI.out.2.2.size)
      obtain ⟨va, vc, rfl⟩ := owns_len HO1.out
      have HR1 := hide r1
      have x0 : W1.cell? ⟨w1.heap.size, 0, none⟩ = some (.int .i64 (1 + (gm : Int))) := by
        have h := cell_row r1 0
        rw [h]
        show some (Value.int .i64 (Gn : Int)) = _
        rw [HGn.out, show ((1 + gm : Nat) : Int) = 1 + (gm : Int) by omega]
      have x1 : W1.cell? ⟨w1.heap.size, 1, none⟩ = some (.bool false) := cell_row r1 1
      have x2 : W1.cell? ⟨w1.heap.size, 2, none⟩ = some (.int .i64 (T.size : Int)) := by rw [← HTz.out]; exact cell_row r1 2
      have x3 : W1.cell? ⟨w1.heap.size, 3, none⟩ = some (.slice va k vc) := cell_row r1 3
      clear hb1 ho1 hbA r1 hW1 HSc HI c1 c2
      have HOne := hide hone1; have HZ1 := hide (And.intro hz1 hzW)
      clear hone1 hz1 hzW
      have sc := run_storeCells_new (P := Tryd.prog) w1 74 (arV 0 false 0 (.slice none 0 0)) (arV Gn false Ts (.slice va k vc)) size74 rfl HOne.out
      rw [← HW1.out] at sc
      go_wp2_with fail
      go_loopw [26] (fun i wq => ∃ m : Nat, m ≤ k ∧ i = .int .i64 m ∧ Below W1.heap.size W1 wq) (fun i _ => k - (intOf i).toNat)
      case atStart => exact ⟨0, Nat.zero_le _, rfl, Below.refl _ _⟩
      case round =>
        obtain ⟨m, hm, rfl, hbl⟩ := hrel
        have HBl := hide hbl
        by_cases hml : m < k
        · have hml' : (m : Int) < (k : Int) := by omega
          have hl : m < ws.length := by rw [HWl.out]; exact hml
          obtain ⟨g1, c1, hf1, _, hg1⟩ := HWt.out.form (by omega)
          obtain ⟨g2, c2, hf2, _, hg2⟩ := HO1.out.form (by omega)
          cases hf1
          cases hf2
          have hpk : ws[m]? = some ws[m] := List.getElem?_eq_getElem hl
          obtain ⟨p0, p1⟩ := kn_cellsN HWl.out (own_grow HWt.out hbl) m ws[m] hpk
          obtain ⟨y0, y1⟩ := kn_cellsN HWl.out (own_grow HO1.out hbl) m ws[m] hpk
          have z3 : wr.cell? ⟨w1.heap.size, 3, none⟩ = some (.slice (some ⟨g2, 0, none⟩) k vc) := (World.cell?_of_block (hbl.block w1.heap.size (by have := HZ1.out.2; omega))).trans x3
          generalize bya ws[m].1 = D0 at *
          generalize bya ws[m].2 = D1 at *
          clear hbl hpk hl x0 x1 x2 x3
          go_wp2_with fail
          go_quiet (fail)
          go_wp2_with fail
          have hw1 := wrapS hml HN8.out.1
          exact ⟨⟨m + 1, Nat.succ_le_of_lt hml, congrArg (Value.int .i64) (hw1.trans (castS m)), below_drewN HBl.out nq⟩, meas hw1 hml⟩
        · have hml' : ¬ (m : Int) < (k : Int) := by omega
          have kc := Lib.run_convert_string_bytes (P := Tryd.prog) wr 9 76 5 T Tryd.underlying9 Tryd.underlying76 Tryd.underlying5
          obtain ⟨W2, hW2⟩ : ∃ W2, W2 = Lib.bytesWorld wr 5 T := ⟨_, rfl⟩
          rw [← hW2] at kc
          have HBt : Hid (BtA W2 wr.heap.size A) := by unfold Hid; rw [hW2, HTk.out]; exact btA_new wr A
          have HB2 : Hid (Below W1.heap.size W1 W2) := by unfold Hid; rw [hW2]; exact below_bytes hbl hbl.size _ _
          have hsz2 : W2.heap.size = wr.heap.size + 1 := by rw [hW2, Lib.bytesWorld_size]
          have HSz := hide hsz2
          generalize grownCap wr T.size 0 5 = cap at kc
          have hWg : W1.heap.size ≤ wr.heap.size := hbl.size
          clear hW2 hbl HBl hsz2 x0 x1 x2 x3 hm
          go_wp2_with fail
          refine (unhide HPa _).mono ?_
          rintro e w' ⟨rfl, hw⟩
          obtain rfl := hw.symm
          clear kc HPa
          go_wp2_with fail
          go_loop [29, 30] (fun gd i => ∃ m : Nat, m ≤ k + 1 ∧ i = .int .i64 m ∧ gd = .int .i64 (gdA ws kk m)) (fun _ i => k + 1 - (intOf i).toNat)
          case atStart => exact ⟨0, Nat.zero_le _, rfl, rfl⟩
          case round =>
            obtain ⟨i, hi, rfl, rfl⟩ := hrel
            by_cases hil : i < k + 1
            · have hil' : (i : Int) < (k : Int) + 1 := by omega
              obtain ⟨g1, c1, hf1, _, _⟩ := HEd.out.form (by omega)
              have ce := end_cells (own_grow HEd.out HB2.out) hf1 i hil
              cases hf1
              by_cases hle : endA ws i ≤ kk
              · have hle' : (endA ws i : Int) ≤ (kk : Int) := by omega
                have HGd : Hid (gdA ws kk (i + 1) = endA ws i) := by unfold Hid; rw [gdA, if_pos hle]
                generalize endA ws i = E at *
                go_wp2_with fail
                have hw1 := wrapS hil HN8.out.2
                exact ⟨⟨i + 1, Nat.succ_le_of_lt hil, congrArg (Value.int .i64) (hw1.trans (castS i)), by rw [HGd.out]⟩, meas hw1 hil⟩
              · have hle' : ¬ (endA ws i : Int) ≤ (kk : Int) := by omega
                have HGd : Hid (gdA ws kk (i + 1) = gdA ws kk i) := by unfold Hid; rw [gdA, if_neg hle]
                generalize endA ws i = E at *
                go_wp2_with fail
                have hw1 := wrapS hil HN8.out.2
                exact ⟨⟨i + 1, Nat.succ_le_of_lt hil, congrArg (Value.int .i64) (hw1.trans (castS i)), by rw [HGd.out]⟩, meas hw1 hil⟩
            · have hil' : ¬ (i : Int) < (k : Int) + 1 := by omega
              obtain rfl : i = k + 1 := Nat.le_antisymm hi (Nat.le_of_not_lt hil)
              obtain ⟨gd, hgd⟩ : ∃ gd, gd = gdA ws kk (k + 1) := ⟨_, rfl⟩
              rw [← hgd] at HST ⊢
              obtain ⟨k', hk'⟩ : ∃ k' : Nat, k' = if kk = gd + 2 ∨ kk = gd + 3 then gd + 4 else kk := ⟨_, rfl⟩
              have hkA : k' < A.length := by
                by_cases h0 : A[k']? = some 0
                · exact (HST.out k' 1 hk' (by rw [h0]; decide)).1
                · exact (HST.out k' 0 hk' h0).1
              have hp1 := pv_bd HPl.out
              obtain ⟨b, hxb, hbne⟩ := xor_u8 A[k'] (1 + pv) hp1.1 hp1.2
              obtain ⟨_, t1, t2, t3, t4⟩ := HST.out k' b hk' (by rw [List.getElem?_eq_getElem hkA]; intro e; exact hbne (Option.some.inj e).symm)
              have cx := HBt.out.cell k' hkA
              have cf := HBt.out.free k' hkA
              have hX := (A[k']).toNat_lt
              have HBw2 : Hid (Below w.heap.size w W2) := HBW.out.trans (HB2.out.mono HBW.out.size)
              have HSt : Hid (∀ w', Below w.heap.size w w' → Calls Tryd.prog 37 #[.string (bya (A.set k' b))] w' fun e' w'' => Below w'.heap.size w' w'' ∧ ∃ v, e' = .returned (.agg (arV (scan (A.set k' b)).gen false gd v)) ∧ v.oneCell' = true) := fun w' hb => scanTurned_ok (A.set k' b) _ gd w' (HT.out _ hb) (set_bd HTS.out hT2) rfl t1 t3 (Nat.le_trans t4 (Nat.le_of_succ_le_succ HN8.out.2))
              have HBs := hide (fun (w' : World) (h : w'.heap[wr.heap.size]? = W2.heap[wr.heap.size]?) => ((HBt.out.up h).set k' b hkA))
              have HT2 := hide t2
              generalize (scan (A.set k' b)).gen = Gy at *
              rw [← wrapPv hp1.2] at hxb
              generalize ((A[k']).toNat : Int) = X at *
              have HX := hide hX; have HP1 := hide hp1; have HGd := hide hgd; have HKA := hide hkA
              have hkT := kT_lt HTS.out hkA
              clear hX hp1 hgd hkA t1 t2 t3 t4 hbne HST hi hil HEd HWt HO1 HBt
              have hg2 := gd_bd HGd.out HKl.out hT2
              have hw2 := wrapK hg2 2 (by decide) (by decide)
              have hw3 := wrapK hg2 3 (by decide) (by decide)
              have hw4 := wrapK hg2 4 (by decide) (by decide)
              clear hg2
              have hcase := case3 hk'
              clear hk'
              rcases hcase with ⟨ha, hb⟩ | ⟨ha, hb, hc⟩ | ⟨ha, hb, hc⟩
              · have f2 : ((kk : Int) == (gd : Int) + 2) = true := by rw [ha]; exact beq_self_eq_true _
                have HE4 : Hid ((gd : Int) + 4 = (k' : Int)) := by unfold Hid; rw [hb]; rfl
                clear ha hb
                go_upto_region 38 with fail
                rw [hw4, HE4.out]
                clear hw2 hw3 hw4 f2
                refine held_pick [0, 1, 2, 3, 4, 5, 6] [7, 8, 9, 10, 11, 12] 11 (fun w' => w'.cell? ⟨wr.heap.size, k', none⟩ = some (.int .u8 X) ∧ w'.frozen? ⟨wr.heap.size, k', none⟩ = false) (by kernel_rfl) (by kernel_rfl) (fun d _ _ _ _ h => by cases d <;> exact h) ⟨cx, cf⟩ ?_
                iterate 7
                  refine wpTakeI_step ?_ rfl rfl ?_ ?_
                  rotate_left
                  · rintro w' ⟨d0, d1⟩
                    go_simp
                    rfl
                  go_simp
                refine wpTakeI_nil ?_
                refine wpTailI_step rfl rfl (fun K hK => ?_)
                go_simp
                refine (unhide HPv _).mono ?_
                rintro e w' ⟨rfl, hw⟩
                obtain rfl := hw.symm
                refine hK _ _ (fun _ => ⟨cx, cf⟩) ?_
                clear hK K
                refine wpTailI_step rfl rfl (fun K hK => ?_)
                go_simp
                refine hK _ _ (fun _ => ⟨cx, cf⟩) ?_
                clear hK K
                refine wpTailI_step rfl rfl (fun K hK => ?_)
                go_simp
                refine hK _ _ (fun _ => ⟨cx, cf⟩) ?_
                clear hK K
                refine wpTailI_step rfl rfl (fun K hK => ?_)
                go_simp
                refine hK _ _ (fun _ => ⟨cx, cf⟩) ?_
                clear hK K
                refine wpTailI_step rfl rfl (fun K hK => ?_)
                go_simp
                refine hK _ _ (fun h => absurd h (by decide)) ?_
                clear hK K
                refine wpTailI_step rfl rfl (fun K hK => ?_)
                go_simp
                refine hK _ _ (fun h => absurd h (by decide)) ?_
                clear hK K
                refine wpTailI_nil ?_
                obtain ⟨W3, hW3⟩ : ∃ W3, W3 = (W2.setCell ⟨wr.heap.size, k', none⟩ (.int .u8 (b.toNat : Int))).drew := ⟨_, rfl⟩
                rw [← hW3]
                have HB3 : BtA W3 wr.heap.size (A.set k' b) := by rw [hW3]; exact (HBs.out W2 rfl).up rfl
                have ck := HB3.str cap
                rw [List.length_set, ← HTS.out] at ck
                have HBw3 : Hid (Below w.heap.size w W3) := by unfold Hid; rw [hW3]; exact (HBw2.out.setCell (p := ⟨wr.heap.size, k', none⟩) (Nat.le_trans HBW.out.size hWg) _).drew
                clear hW3 HB3 hxb cx cf HBs HPv hkT
                go_wp2_with fail
                refine (unhide HSt _ HBw3.out).mono ?_
                rintro e w4 ⟨hb4, v4, rfl, ho4⟩
                obtain ⟨W5, hW5⟩ : ∃ W5, W5 = w4.alloc (.cells (arV Gy false gd v4) 74) := ⟨_, rfl⟩
                have sc4 := run_storeCells_new (P := Tryd.prog) w4 74 (arV 0 false 0 (.slice none 0 0)) (arV Gy false gd v4) size74 rfl (arV_one Gy false gd v4 ho4)
                rw [← hW5] at sc4
                have HBw5 : Hid (Below w.heap.size w W5) := by unfold Hid; rw [hW5]; exact (HBw3.out.trans (hb4.mono HBw3.out.size)).alloc (Nat.le_trans HBw3.out.size hb4.size) _
                have r5 : W5.heap[w4.heap.size]? = some (.cells (arV Gy false gd v4) 74 (0, 0)) := by rw [hW5, _root_.Go.heap_alloc_new]
                have y0 : W5.cell? ⟨w4.heap.size, 0, none⟩ = some (.int .i64 (Gy : Int)) := cell_row r5 0
                have y1 : W5.cell? ⟨w4.heap.size, 1, none⟩ = some (.bool false) := cell_row r5 1
                have y2 : W5.cell? ⟨w4.heap.size, 2, none⟩ = some (.int .i64 (gd : Int)) := cell_row r5 2
                clear r5 hW5 hb4 ho4 HSt ck sc
                by_cases hz0 : 0 < gd
                · have hz1 : (0 : Int) < (gd : Int) := Int.natCast_pos.2 hz0
                  rw [HT2.out.1 hz0, castN] at y0
                  go_wp2_with fail
                  go_ret
                  exact ⟨rfl, HBw5.out⟩
                · have hz1 : ¬ (0 : Int) < (gd : Int) := fun h => hz0 (Int.natCast_pos.1 h)
                  have hg0 : ((Gy : Int) == 1 + (gm : Int)) = false := ne_gy (fun e => hz0 (HT2.out.2 e))
                  go_wp2_with fail
                  go_ret
                  exact ⟨rfl, HBw5.out⟩
              · have f2 := ne2 ha
                have f3 : ((kk : Int) == (gd : Int) + 3) = true := by rw [hb]; exact beq_self_eq_true _
                have HE4 : Hid ((gd : Int) + 4 = (k' : Int)) := by unfold Hid; rw [hc]; rfl
                clear ha hb hc
                go_upto_region 38 with fail
                rw [hw4, HE4.out]
                clear hw2 hw3 hw4 f2 f3
                refine held_pick [0, 1, 2, 3, 4, 5, 6] [7, 8, 9, 10, 11, 12] 11 (fun w' => w'.cell? ⟨wr.heap.size, k', none⟩ = some (.int .u8 X) ∧ w'.frozen? ⟨wr.heap.size, k', none⟩ = false) (by kernel_rfl) (by kernel_rfl) (fun d _ _ _ _ h => by cases d <;> exact h) ⟨cx, cf⟩ ?_
                iterate 7
                  refine wpTakeI_step ?_ rfl rfl ?_ ?_
                  rotate_left
                  · rintro w' ⟨d0, d1⟩
                    go_simp
                    rfl
                  go_simp
                refine wpTakeI_nil ?_
                refine wpTailI_step rfl rfl (fun K hK => ?_)
                go_simp
                refine (unhide HPv _).mono ?_
                rintro e w' ⟨rfl, hw⟩
                obtain rfl := hw.symm
                refine hK _ _ (fun _ => ⟨cx, cf⟩) ?_
                clear hK K
                refine wpTailI_step rfl rfl (fun K hK => ?_)
                go_simp
                refine hK _ _ (fun _ => ⟨cx, cf⟩) ?_
                clear hK K
                refine wpTailI_step rfl rfl (fun K hK => ?_)
                go_simp
                refine hK _ _ (fun _ => ⟨cx, cf⟩) ?_
                clear hK K
                refine wpTailI_step rfl rfl (fun K hK => ?_)
                go_simp
                refine hK _ _ (fun _ => ⟨cx, cf⟩) ?_
                clear hK K
                refine wpTailI_step rfl rfl (fun K hK => ?_)
                go_simp
                refine hK _ _ (fun h => absurd h (by decide)) ?_
                clear hK K
                refine wpTailI_step rfl rfl (fun K hK => ?_)
                go_simp
                refine hK _ _ (fun h => absurd h (by decide)) ?_
                clear hK K
                refine wpTailI_nil ?_
                obtain ⟨W3, hW3⟩ : ∃ W3, W3 = (W2.setCell ⟨wr.heap.size, k', none⟩ (.int .u8 (b.toNat : Int))).drew := ⟨_, rfl⟩
                rw [← hW3]
                have HB3 : BtA W3 wr.heap.size (A.set k' b) := by rw [hW3]; exact (HBs.out W2 rfl).up rfl
                have ck := HB3.str cap
                rw [List.length_set, ← HTS.out] at ck
                have HBw3 : Hid (Below w.heap.size w W3) := by unfold Hid; rw [hW3]; exact (HBw2.out.setCell (p := ⟨wr.heap.size, k', none⟩) (Nat.le_trans HBW.out.size hWg) _).drew
                clear hW3 HB3 hxb cx cf HBs HPv hkT
                go_wp2_with fail
                refine (unhide HSt _ HBw3.out).mono ?_
                rintro e w4 ⟨hb4, v4, rfl, ho4⟩
                obtain ⟨W5, hW5⟩ : ∃ W5, W5 = w4.alloc (.cells (arV Gy false gd v4) 74) := ⟨_, rfl⟩
                have sc4 := run_storeCells_new (P := Tryd.prog) w4 74 (arV 0 false 0 (.slice none 0 0)) (arV Gy false gd v4) size74 rfl (arV_one Gy false gd v4 ho4)
                rw [← hW5] at sc4
                have HBw5 : Hid (Below w.heap.size w W5) := by unfold Hid; rw [hW5]; exact (HBw3.out.trans (hb4.mono HBw3.out.size)).alloc (Nat.le_trans HBw3.out.size hb4.size) _
                have r5 : W5.heap[w4.heap.size]? = some (.cells (arV Gy false gd v4) 74 (0, 0)) := by rw [hW5, _root_.Go.heap_alloc_new]
                have y0 : W5.cell? ⟨w4.heap.size, 0, none⟩ = some (.int .i64 (Gy : Int)) := cell_row r5 0
                have y1 : W5.cell? ⟨w4.heap.size, 1, none⟩ = some (.bool false) := cell_row r5 1
                have y2 : W5.cell? ⟨w4.heap.size, 2, none⟩ = some (.int .i64 (gd : Int)) := cell_row r5 2
                clear r5 hW5 hb4 ho4 HSt ck sc
                by_cases hz0 : 0 < gd
                · have hz1 : (0 : Int) < (gd : Int) := Int.natCast_pos.2 hz0
                  rw [HT2.out.1 hz0, castN] at y0
                  go_wp2_with fail
                  go_ret
                  exact ⟨rfl, HBw5.out⟩
                · have hz1 : ¬ (0 : Int) < (gd : Int) := fun h => hz0 (Int.natCast_pos.1 h)
                  have hg0 : ((Gy : Int) == 1 + (gm : Int)) = false := ne_gy (fun e => hz0 (HT2.out.2 e))
                  go_wp2_with fail
                  go_ret
                  exact ⟨rfl, HBw5.out⟩
              · have f2 := ne2 ha
                have f3 := ne3 hb
                have HE4 : Hid ((kk : Int) = (k' : Int)) := by unfold Hid; rw [hc]
                clear ha hb hc
                go_upto_region 38 with fail
                rw [HE4.out]
                clear hw2 hw3 hw4 f2 f3
                refine held_pick [0, 1, 2, 3, 4, 5, 6] [7, 8, 9, 10, 11, 12] 11 (fun w' => w'.cell? ⟨wr.heap.size, k', none⟩ = some (.int .u8 X) ∧ w'.frozen? ⟨wr.heap.size, k', none⟩ = false) (by kernel_rfl) (by kernel_rfl) (fun d _ _ _ _ h => by cases d <;> exact h) ⟨cx, cf⟩ ?_
                iterate 7
                  refine wpTakeI_step ?_ rfl rfl ?_ ?_
                  rotate_left
                  · rintro w' ⟨d0, d1⟩
                    go_simp
                    rfl
                  go_simp
                refine wpTakeI_nil ?_
                refine wpTailI_step rfl rfl (fun K hK => ?_)
                go_simp
                refine (unhide HPv _).mono ?_
                rintro e w' ⟨rfl, hw⟩
                obtain rfl := hw.symm
                refine hK _ _ (fun _ => ⟨cx, cf⟩) ?_
                clear hK K
                refine wpTailI_step rfl rfl (fun K hK => ?_)
                go_simp
                refine hK _ _ (fun _ => ⟨cx, cf⟩) ?_
                clear hK K
                refine wpTailI_step rfl rfl (fun K hK => ?_)
                go_simp
                refine hK _ _ (fun _ => ⟨cx, cf⟩) ?_
                clear hK K
                refine wpTailI_step rfl rfl (fun K hK => ?_)
                go_simp
                refine hK _ _ (fun _ => ⟨cx, cf⟩) ?_
                clear hK K
                refine wpTailI_step rfl rfl (fun K hK => ?_)
                go_simp
                refine hK _ _ (fun h => absurd h (by decide)) ?_
                clear hK K
                refine wpTailI_step rfl rfl (fun K hK => ?_)
                go_simp
                refine hK _ _ (fun h => absurd h (by decide)) ?_
                clear hK K
                refine wpTailI_nil ?_
                obtain ⟨W3, hW3⟩ : ∃ W3, W3 = (W2.setCell ⟨wr.heap.size, k', none⟩ (.int .u8 (b.toNat : Int))).drew := ⟨_, rfl⟩
                rw [← hW3]
                have HB3 : BtA W3 wr.heap.size (A.set k' b) := by rw [hW3]; exact (HBs.out W2 rfl).up rfl
                have ck := HB3.str cap
                rw [List.length_set, ← HTS.out] at ck
                have HBw3 : Hid (Below w.heap.size w W3) := by unfold Hid; rw [hW3]; exact (HBw2.out.setCell (p := ⟨wr.heap.size, k', none⟩) (Nat.le_trans HBW.out.size hWg) _).drew
                clear hW3 HB3 hxb cx cf HBs HPv hkT
                go_wp2_with fail
                refine (unhide HSt _ HBw3.out).mono ?_
                rintro e w4 ⟨hb4, v4, rfl, ho4⟩
                obtain ⟨W5, hW5⟩ : ∃ W5, W5 = w4.alloc (.cells (arV Gy false gd v4) 74) := ⟨_, rfl⟩
                have sc4 := run_storeCells_new (P := Tryd.prog) w4 74 (arV 0 false 0 (.slice none 0 0)) (arV Gy false gd v4) size74 rfl (arV_one Gy false gd v4 ho4)
                rw [← hW5] at sc4
                have HBw5 : Hid (Below w.heap.size w W5) := by unfold Hid; rw [hW5]; exact (HBw3.out.trans (hb4.mono HBw3.out.size)).alloc (Nat.le_trans HBw3.out.size hb4.size) _
                have r5 : W5.heap[w4.heap.size]? = some (.cells (arV Gy false gd v4) 74 (0, 0)) := by rw [hW5, _root_.Go.heap_alloc_new]
                have y0 : W5.cell? ⟨w4.heap.size, 0, none⟩ = some (.int .i64 (Gy : Int)) := cell_row r5 0
                have y1 : W5.cell? ⟨w4.heap.size, 1, none⟩ = some (.bool false) := cell_row r5 1
                have y2 : W5.cell? ⟨w4.heap.size, 2, none⟩ = some (.int .i64 (gd : Int)) := cell_row r5 2
                clear r5 hW5 hb4 ho4 HSt ck sc
                by_cases hz0 : 0 < gd
                · have hz1 : (0 : Int) < (gd : Int) := Int.natCast_pos.2 hz0
                  rw [HT2.out.1 hz0, castN] at y0
                  go_wp2_with fail
                  go_ret
                  exact ⟨rfl, HBw5.out⟩
                · have hz1 : ¬ (0 : Int) < (gd : Int) := fun h => hz0 (Int.natCast_pos.1 h)
                  have hg0 : ((Gy : Int) == 1 + (gm : Int)) = false := ne_gy (fun e => hz0 (HT2.out.2 e))
                  go_wp2_with fail
                  go_ret
                  exact ⟨rfl, HBw5.out⟩
end Go.Proofs.YtmmflekajbeamaaDoor
