/-
  The document's device: a crash, byte by byte; a device that is new (package cribref).
  The two devices, the program's and the document's, tell the same: Sim and what every call makes of it.
  The law's stored: a call of one device, the program's and the document's.
  Lists that the caller writes full of a mark and appends marks to, of whatever elements: whatever they share, all of them read marks alone. E: the elements' type, k: their cells, mc: a mark's cells.
  The law's book, of whatever elements: the lists that came out, each beside what was appended to it.
  The law's own marks (markInt).
  The law's book of blocks and plans: marks, two lists the same (markPlan, samePlans).
  Plans, the document's answer: are these the words of a block (IsBlock); what slots are at first (begin).
  Plans, the document's answer: what registers come to by puts and by words (byPuts, byWords).
  Plans, the document's answer: Accept.
  A state that is built out of its parts.
  Plans, the document's answer: a plan is done (cribref.Do).
  The law's book of puts: marks, two lists the same, a list that came out is written full of marks, appended to, and kept (markPut, samePuts, keepPuts).
  The law's book of puts: a list that came out is written full of marks, appended to, and kept (keepPuts).
  The law's book of puts: its looks (lookPuts, looks); Puts against the document's (putsOf).
  The law's accepts and does; a book of puts that is new.
  Frames: an Entry frame is taken (takeEntry).
  The law's book of blocks and plans: a list that came out is written full of marks, appended to, and kept (keepPlans).
  The law's book of plans: its looks (lookPlans, looks).
  The law's world of devices: NewDevice (World.device).
  The law's world of devices: a step (World.step) of the kinds of devices.
  The law's step (World.step), of the kinds of devices.
  The law's step of a device that there is; every step of the kinds of devices.
  THE LAW Devices: what it begins with (criblaw.begins), the book that has nothing (Book.looks).
  THE LAW Devices, walked (criblaw.plays, criblaw.Devices).
  The engine's book: a block's words as a map's key.
  The engine's book in memory: plans by their blocks' words, each block once, in the order in which they came.
-/
import Derived.Test.YtmmflekajbeamabGreatDoorG16
import Derived.Test.YtmmflekajbeamabGreatDoorG04
import Derived.Test.YtmmflekajbeamabGreatDoorG05
import Derived.Maps.AppendAt
import Derived.Test.YtmmflekajbeamabGreatDoorG02
import Derived.Test.YtmmflekajbeamabGreatDoorG12
import Derived.Test.YtmmflekajbeamabGreatDoorG07
import Derived.Test.YtmmflekajbeamabGreatDoorG11
import Derived.Test.YtmmflekajbeamabGreatDoorG14
import Derived.Test.YtmmflekajbeamabGreatDoorG03
import Derived.Test.YtmmflekajbeamabGreatDoorG10
import Derived.Laws.Tables
import Derived.Deep.MidRow
import Derived.Test.YtmmflekajbeamabGreatDoorG15
import Derived.Deep.AppendLies
import Derived.Great.BuildSlice
namespace Go.Proofs.YtmmflekajbeamabGreatDoor
open Go.RowKit

theorem measM {k m : Nat} {x : Int} (hx : x = ((m + 1 : Nat) : Int)) (h : m < k) : k - (intOf (.int .i64 x)).toNat < k - (intOf (.int .i64 (m : Int))).toNat := by
  subst hx
  simp only [intOf]
  omega
end Go.Proofs.YtmmflekajbeamabGreatDoor

namespace Go.Proofs.YtmmflekajbeamabGreatDoor
open Go.RowKit

structure Sim (d : DvN) (r : RvN) : Prop where
  b : ∀ i, i < 2 → d.b i = r.l i ++ r.t i
  n : ∀ i, i < 2 → d.n i = (r.l i).length
  t : (d.tr = 0 ∧ (r.du = 0 ∨ r.du ≤ r.tu)) ∨ (0 < d.tr ∧ r.du = r.tu + d.tr)
end Go.Proofs.YtmmflekajbeamabGreatDoor

namespace Go.Proofs.YtmmflekajbeamabGreatDoor
open Go.RowKit

/-- Where a pair of devices lies. -/
structure Pr where
  X : Nat
  D : Nat
  R : Nat
  vs : Nat → Value
  wk : Int
  us : Int
  en : Int
/-- The numbers that are told beside. -/
def Gh (p : Pr) (d : DvN) (r : RvN) : Prop := d.wk = p.wk ∧ r.us = p.us ∧ r.en = p.en
def Bd (p : Pr) (m : Nat) : Prop := 0 ≤ p.wk ∧ p.wk ≤ (m : Int) ∧ 0 ≤ p.en ∧ p.en ≤ (m : Int)
structure PrAt (p : Pr) (m : Nat) (w : World) : Prop where
  st : ∃ d r, DvAt p.D d p.vs w ∧ RvAt p.R r w ∧ Sim d r ∧ r.tu ≤ m ∧ Gh p d r
  bd : Bd p m
  x : XAt p.X p.D w
  xlt : p.X < w.heap.size
  dx : p.D < p.X
  dr : p.D < p.R
  xr : p.X ≠ p.R
  own : ∀ i, i < 2 → ∀ g, (p.vs i).ownBlock = some g → g ≠ p.X ∧ g ≠ p.R
/-- The boxes of a call of stored. -/
structure Bx (p : Pr) (k a : Int) (s : ByteArray) (m : Nat) (w W : World) : Prop where
  pr : PrAt p m W
  bel : Below w.heap.size w W
  size : W.heap.size = w.heap.size + 2
  c0 : W.cell? ⟨w.heap.size, 0, none⟩ = some (.pointer (some ⟨p.X, 0, none⟩))
  c1 : W.cell? ⟨w.heap.size, 1, none⟩ = some (.pointer (some ⟨p.R, 0, none⟩))
  o0 : W.cell? ⟨w.heap.size + 1, 0, none⟩ = some (.int .i64 k)
  o2 : W.cell? ⟨w.heap.size + 1, 2, none⟩ = some (.int .i64 a)
  o4 : W.cell? ⟨w.heap.size + 1, 4, none⟩ = some (.string s)
end Go.Proofs.YtmmflekajbeamabGreatDoor

namespace Go.Proofs.YtmmflekajbeamabGreatDoor
open Go.RowKit

section
variable {E : TypeId} {k : Nat} {mc : List Value}
end
end Go.Proofs.YtmmflekajbeamabGreatDoor

namespace Go.Proofs.YtmmflekajbeamabGreatDoor
open Go.RowKit

section
variable {fi : Nat} {T E : TypeId} {k : Nat} {mk : Nat → List Value} {N : Nat} {vs : List Value} {vi : Value}
end
end Go.Proofs.YtmmflekajbeamabGreatDoor

namespace Go.Proofs.YtmmflekajbeamabGreatDoor
open Go.RowKit

end Go.Proofs.YtmmflekajbeamabGreatDoor

namespace Go.Proofs.YtmmflekajbeamabGreatDoor
open Go.RowKit

theorem kn_cells {w : World} {B : Nat} {g cap : Nat} {l : List (List UInt8 × List UInt8)} (h : w.ownsRow B 71 2 (.slice (some ⟨g, 0, none⟩) l.length cap) l.length (knCs l)) (n : Nat) (x : List UInt8 × List UInt8) (hn : l[n]? = some x) :
    w.cell? ⟨g, n * 2, none⟩ = some (.string (bya x.1)) ∧ w.cell? ⟨g, n * 2 + 1, none⟩ = some (.string (bya x.2)) := by
  have hlt : n < l.length := (List.getElem?_eq_some_iff.1 hn).1
  have key := flat_atG (fun x : List UInt8 × List UInt8 => [Value.string (bya x.1), Value.string (bya x.2)]) 2 (fun _ => rfl) l n x hn
  refine ⟨?_, ?_⟩
  · rw [h.cellAt (n * 2) (by omega)]
    exact key 0 (by decide)
  · rw [h.cellAt (n * 2 + 1) (by omega)]
    exact key 1 (by decide)

end Go.Proofs.YtmmflekajbeamabGreatDoor

namespace Go.Proofs.YtmmflekajbeamabGreatDoor
open Go.RowKit

end Go.Proofs.YtmmflekajbeamabGreatDoor

namespace Go.Proofs.YtmmflekajbeamabGreatDoor
open Go.RowKit

end Go.Proofs.YtmmflekajbeamabGreatDoor

namespace Go.Proofs.YtmmflekajbeamabGreatDoor
open Go.RowKit

end Go.Proofs.YtmmflekajbeamabGreatDoor

namespace Go.Proofs.YtmmflekajbeamabGreatDoor
open Go.RowKit

theorem fold_put (off : Nat) : ∀ (l : List Value) (i : Nat) (cs : Array Value), off + i + l.length ≤ cs.size → ((l.zipIdx i).foldl (fun cs x => cs.setIfInBounds (off + x.2) x.1) cs).size = cs.size ∧ ∀ j : Nat, ((l.zipIdx i).foldl (fun cs x => cs.setIfInBounds (off + x.2) x.1) cs)[j]? = if off + i ≤ j ∧ j < off + i + l.length then l[j - (off + i)]? else cs[j]? := by
  intro l
  induction l with
  | nil => intro i cs _; exact ⟨rfl, fun j => by rw [if_neg (by simp only [List.length_nil]; omega)]; rfl⟩
  | cons v l ih =>
    intro i cs h
    rw [List.length_cons] at h
    obtain ⟨h1, h2⟩ := ih (i + 1) (cs.setIfInBounds (off + i) v) (by rw [Array.size_setIfInBounds]; omega)
    rw [List.zipIdx_cons, List.foldl_cons]
    refine ⟨by rw [h1, Array.size_setIfInBounds], fun j => ?_⟩
    rw [h2, List.length_cons]
    by_cases hj : j = off + i
    · subst hj
      rw [if_neg (by omega), if_pos (by omega), Nat.sub_self, Array.getElem?_setIfInBounds, if_pos rfl, if_pos (by omega)]
      rfl
    · by_cases hj2 : off + (i + 1) ≤ j ∧ j < off + (i + 1) + l.length
      · rw [if_pos hj2, if_pos (by omega), show j - (off + i) = (j - (off + (i + 1))) + 1 by omega, List.getElem?_cons_succ]
      · rw [if_neg hj2, if_neg (by omega), Array.getElem?_setIfInBounds, if_neg (fun e => hj e.symm)]
/-- The cells of v laid into cs from off on. -/
def layA (off : Nat) (v cs : Array Value) : Array Value := v.zipIdx.foldl (fun cs x => cs.setIfInBounds (off + x.2) x.1) cs
theorem layA_eq (off : Nat) (v cs : Array Value) : layA off v cs = (v.toList.zipIdx 0).foldl (fun cs x => cs.setIfInBounds (off + x.2) x.1) cs := by
  unfold layA
  rw [← Array.foldl_toList, Array.toList_zipIdx]
theorem layA_size (off : Nat) (v cs : Array Value) (h : off + v.size ≤ cs.size) : (layA off v cs).size = cs.size := by
  rw [layA_eq]
  exact (fold_put off v.toList 0 cs (by simpa using h)).1
theorem layA_get (off : Nat) (v cs : Array Value) (h : off + v.size ≤ cs.size) (j : Nat) : (layA off v cs)[j]? = if off ≤ j ∧ j < off + v.size then v[j - off]? else cs[j]? := by
  rw [layA_eq, (fold_put off v.toList 0 cs (by simpa using h)).2 j]
  simp
end Go.Proofs.YtmmflekajbeamabGreatDoor

namespace Go.Proofs.YtmmflekajbeamabGreatDoor
open Go.RowKit

end Go.Proofs.YtmmflekajbeamabGreatDoor

namespace Go.Proofs.YtmmflekajbeamabGreatDoor
open Go.RowKit

end Go.Proofs.YtmmflekajbeamabGreatDoor

namespace Go.Proofs.YtmmflekajbeamabGreatDoor
open Go.RowKit

end Go.Proofs.YtmmflekajbeamabGreatDoor

namespace Go.Proofs.YtmmflekajbeamabGreatDoor
open Go.RowKit

end Go.Proofs.YtmmflekajbeamabGreatDoor

namespace Go.Proofs.YtmmflekajbeamabGreatDoor
open Go.RowKit

theorem range_row {w : World} {g : Nat} {t : TypeId} {z : List Int} (h : RowI w g t z) (o k : Nat) (ho : o + k ≤ z.length) : w.rangeAt g o (((z.drop o).take k).map (Value.int .i64)) := by
  intro j v hj
  have hlt := (List.getElem?_eq_some_iff.1 hj).1
  simp only [List.length_map, List.length_take, List.length_drop] at hlt
  rw [h.cell (o + j) (by omega)]
  rw [List.getElem?_map, List.getElem?_take, if_pos (by omega), List.getElem?_drop] at hj
  unfold gz
  rw [List.getD_eq_getElem?_getD]
  cases hq : z[o + j]? with
  | none => rw [hq] at hj; cases hj
  | some y => rw [hq] at hj; exact hj

end Go.Proofs.YtmmflekajbeamabGreatDoor

namespace Go.Proofs.YtmmflekajbeamabGreatDoor
open Go.RowKit

def rEntry (a : ArN) (q : List UInt8) : Option ArN := if q ≠ [] ∧ 1 + 4 * (q.getD 0 0).toNat ≤ q.length ∧ blkB (bya ((q.drop 1).take (4 * (q.getD 0 0).toNat))) = true then some ⟨a.gen, a.whole, a.good + (q.length + 8), a.list ++ [((q.drop 1).take (4 * (q.getD 0 0).toNat), q.drop (1 + 4 * (q.getD 0 0).toNat))]⟩ else none
theorem infoKn : ∃ i, Tryz.prog.info? 71 = some i ∧ i.zero = some (.agg #[.string ⟨#[]⟩, .string ⟨#[]⟩]) ∧ i.size = 2 ∧ i.bytes = 32 := by
  have h : (Tryz.prog.info? 71).map (fun i => (i.zero, i.size, i.bytes)) = some (some (.agg #[.string ⟨#[]⟩, .string ⟨#[]⟩]), 2, 32) := by kernel_rfl
  cases hq : Tryz.prog.info? 71 with
  | none => rw [hq] at h; cases h
  | some i =>
    rw [hq] at h
    simp only [Option.map_some, Option.some.injEq, Prod.mk.injEq] at h
    exact ⟨i, rfl, h.1, h.2.1, h.2.2⟩
theorem ext_bh (D : ByteArray) (c : Nat) (h : 1 + c ≤ D.size) : lst ((D.extract 1 D.size).extract 0 c) = ((lst D).drop 1).take c ∧ lst ((D.extract 1 D.size).extract c (D.extract 1 D.size).size) = (lst D).drop (1 + c) := by
  have hz : (D.extract 1 D.size).size = D.size - 1 := by rw [ByteArray.size_extract]; omega
  refine ⟨?_, ?_⟩
  · rw [lst_ext, lst_ext, List.drop_zero, Nat.sub_zero, List.take_take, Nat.min_eq_left (by omega)]
  · rw [lst_ext, lst_ext, hz, List.drop_take, List.drop_drop, List.take_of_length_le (by rw [List.length_take, List.length_drop, lst_len]; omega), List.take_of_length_le (by rw [List.length_drop, lst_len]; omega)]

set_option maxRecDepth 100000 in
set_option maxHeartbeats 4000000 in
theorem takeEntry_any (A : Nat) (a : ArN) (v : Value) (K : Nat) (q : List UInt8) (n : Int) (w : World) (h : ArAt A a v w) (ht : Tab w) (hq2 : q.length ≤ 200) (hal : a.list.length ≤ 2000000) :
    Calls Tryz.prog 221 #[.pointer (some ⟨A, 0, none⟩), .agg #[.int .i64 (K : Int), .string (bya q), .int .i64 n]] w (TkPost A a v (rEntry a q) w) := by
  obtain ⟨inf, hinf, hzi, hsz1, hby⟩ := infoKn
  have HInf := hide hinf; have HZi := hide hzi; have HSz := hide hsz1; have HBy := hide hby
  clear hinf hzi hsz1 hby
  have hA := h.lt
  have HNo : Hid (∀ w', Below w.heap.size w w' → rEntry a q = none → TkPost A a v (rEntry a q) w (.returned (.bool false)) w') := fun w' hb hr => ⟨TkFr.of_above hA hb, .inr ⟨hr, rfl, h.above hb⟩⟩
  have HR : Hid (¬ (q ≠ [] ∧ 1 + 4 * (q.getD 0 0).toNat ≤ q.length ∧ blkB (bya ((q.drop 1).take (4 * (q.getD 0 0).toNat))) = true) → rEntry a q = none) := fun hc => if_neg hc
  have HY : Hid ((q ≠ [] ∧ 1 + 4 * (q.getD 0 0).toNat ≤ q.length ∧ blkB (bya ((q.drop 1).take (4 * (q.getD 0 0).toNat))) = true) → rEntry a q = some ⟨a.gen, a.whole, a.good + (q.length + 8), a.list ++ [((q.drop 1).take (4 * (q.getD 0 0).toNat), q.drop (1 + 4 * (q.getD 0 0).toNat))]⟩) := fun hc => if_pos hc
  have hzq : (bya q).size = q.length := bya_size q
  have hc0 : (q.getD 0 0).toNat = bt (bya q) 0 := by rw [← bya_get]; rfl
  have hlD : lst (bya q) = q := lst_bya q
  have hqbT : q = [] → ((bya q).toList == ([] : List UInt8)) = true := fun e => by rw [e, ByteArray.toList_eq, bya_list]; rfl
  have hqbF : q ≠ [] → ((bya q).toList == ([] : List UInt8)) = false := bya_ne
  rw [hc0] at HR HY
  generalize bya q = D at *
  generalize rEntry a q = R at *
  have HB0 := hide ((Below.refl w.heap.size w).alloc (Nat.le_refl _) (.cells #[.int .i64 (K : Int), .string D, .int .i64 n] 240))
  by_cases hqe : q = []
  · have HN := hide (HR.out (fun hh => hh.1 hqe))
    have hqb := hqbT hqe
    clear hlD hzq
    go_enter Tryz.func221, Tryz.ntmps221
    go_wp2_with fail
    go_ret
    exact HNo.out _ HB0.out HN.out
  have hqb := hqbF hqe
  have hq1 : 1 ≤ q.length := by cases q with | nil => exact absurd rfl hqe | cons _ _ => simp
  have hD0 : 0 < D.size := by omega
  have hg0 := bt_get D 0 hD0
  have hbl := bt_lt D 0
  have hbz : (D.extract 1 D.size).size = q.length - 1 := by rw [ByteArray.size_extract]; omega
  have v1 : IntKind.i64.wrap (bt D 0 : Int) = (bt D 0 : Int) := by rw [IntKind.wrap_i64]; omega
  have hD1 : (1 : Int) ≤ (D.size : Int) := by omega
  by_cases hcl : q.length < 1 + 4 * bt D 0
  · have HN := hide (HR.out (fun hh => by have := hh.2.1; omega))
    have hgt : (((D.extract 1 D.size).size : Nat) : Int) < (bt D 0 : Int) * 4 := by omega
    have HZ := hide hbz; have HZq := hide hzq
    clear hbz hzq hc0 hlD hqbT hqbF HY
    generalize bt D 0 = c at *
    go_enter Tryz.func221, Tryz.ntmps221
    go_upto_region 3 with fail
    go_quiet (fail)
    have HB1 := hide (below_drewN HB0.out nq)
    generalize (w.alloc (.cells #[.int .i64 (K : Int), .string D, .int .i64 n] 240)).drewN nq = w1 at *
    generalize D.extract 1 D.size = Bh at *
    go_wp2_with fail
    go_ret
    exact HNo.out _ HB1.out HN.out
  have hle : ¬ (((D.extract 1 D.size).size : Nat) : Int) < (bt D 0 : Int) * 4 := by omega
  have hle2 : (bt D 0 : Int) * 4 ≤ (((D.extract 1 D.size).size : Nat) : Int) := by omega
  have v2 : ((bt D 0 : Int) * 4).toNat = 4 * bt D 0 := by omega
  have v3 : (0 : Int) ≤ (bt D 0 : Int) * 4 := by omega
  obtain ⟨x1, x2⟩ := ext_bh D (4 * bt D 0) (by omega)
  rw [hlD] at x1 x2
  have hWz : ((D.extract 1 D.size).extract 0 (4 * bt D 0)).size ≤ maxLen := by rw [ByteArray.size_extract]; unfold maxLen; omega
  have HRd := hide (fun w' (hb : Below w.heap.size w w') => blkRead_any ((D.extract 1 D.size).extract 0 (4 * bt D 0)) w' (ht.below ht.pos hb) hWz)
  have hPz : ((D.extract 1 D.size).extract (4 * bt D 0) (D.extract 1 D.size).size).size ≤ 2000000 := by rw [ByteArray.size_extract]; omega
  have HCl := hide (fun w' => clone_any ((D.extract 1 D.size).extract (4 * bt D 0) (D.extract 1 D.size).size) w' hPz)
  have HZ := hide hbz; have HZq := hide hzq; have HX1 := hide x1; have HX2 := hide x2
  have HQe := hide hqe; have HCl2 := hide hcl
  clear hbz hzq hc0 hlD hqbT hqbF x1 x2 hqe hcl
  generalize bt D 0 = c at *
  go_enter Tryz.func221, Tryz.ntmps221
  go_upto_region 3 with fail
  go_quiet (fail)
  have HB1 := hide (below_drewN HB0.out nq)
  generalize (w.alloc (.cells #[.int .i64 (K : Int), .string D, .int .i64 n] 240)).drewN nq = w1 at *
  generalize D.extract 1 D.size = Bh at *
  go_wp2_with fail
  refine (unhide HRd _ HB1.out).mono ?_
  rintro e w2 ⟨hb2, ⟨hok, rfl⟩ | ⟨hno, rfl⟩⟩
  rotate_left
  · have HN : Hid (R = none) := HR.out (fun hh => hno (by
      have := (blkB_iff _).1 hh.2.2
      rw [← HX1.out, bya_lst] at this
      exact this))
    have HB2 : Hid (Below w.heap.size w w2) := HB1.out.trans (hb2.mono HB1.out.size)
    have HB3 : Hid (Below w.heap.size w (w2.alloc (.cells (S (wdZ [])) 131))) := HB2.out.alloc HB2.out.size _
    have z9 := zero9
    clear hb2 hno HRd HCl
    go_wp2_with (refine wpList_storeR size9 rfl _ _ rfl w2.heap.size rfl (wdZ []) rfl rfl (by rw [isRowB_alloc_at _ _ _ _ _ rfl]; rfl) _ (setRow_alloc_at _ _ _ _ _ rfl) ?_)
    go_ret
    exact HNo.out _ HB3.out HN.out
  have hwl : (blkL (Bh.extract 0 (4 * c)) ((Bh.extract 0 (4 * c)).size / 4)).length ≤ 8 := by rw [blkL_len]; have := hok.2.1; omega
  have hwb := blkL_bd (Bh.extract 0 (4 * c)) ((Bh.extract 0 (4 * c)).size / 4)
  have HTx := hide (fun w' => wdText_any (blkL (Bh.extract 0 (4 * c)) ((Bh.extract 0 (4 * c)).size / 4)) w' hwl hwb)
  rw [wds_lst hok.2.2.1] at HTx
  have hzl := wdZ_len hwl
  have HRs : Hid (R = some ⟨a.gen, a.whole, a.good + (q.length + 8), a.list ++ [(lst (Bh.extract 0 (4 * c)), lst (Bh.extract (4 * c) Bh.size))]⟩) := by
    unfold Hid
    rw [HX1.out, HX2.out]
    refine HY.out ⟨HQe.out, by have := HCl2.out; omega, (blkB_iff _).2 ?_⟩
    rw [← HX1.out, bya_lst]
    exact hok
  have HB2 : Hid (Below w.heap.size w w2) := HB1.out.trans (hb2.mono HB1.out.size)
  have HB3 : Hid (Below w.heap.size w (w2.alloc (.cells (S (wdZ (blkL (Bh.extract 0 (4 * c)) ((Bh.extract 0 (4 * c)).size / 4)))) 131))) := HB2.out.alloc HB2.out.size _
  have HWd : Hid (RowI (w2.alloc (.cells (S (wdZ (blkL (Bh.extract 0 (4 * c)) ((Bh.extract 0 (4 * c)).size / 4)))) 131)) w2.heap.size 131 (wdZ (blkL (Bh.extract 0 (4 * c)) ((Bh.extract 0 (4 * c)).size / 4)))) := _root_.Go.heap_alloc_new w2 _
  have z9 := zero9
  have hz2 := HB2.out.size
  clear hb2 hok HRd HR HY HX1 HX2 hwl hwb
  generalize wdZ (blkL (Bh.extract 0 (4 * c)) ((Bh.extract 0 (4 * c)).size / 4)) = zw at *
  go_wp2_with (refine wpList_storeR size9 rfl _ _ rfl w2.heap.size rfl zw rfl hzl (by rw [isRowB_alloc_at _ _ _ _ _ rfl]; rfl) _ (setRow_alloc_at _ _ _ _ _ rfl) ?_)
  refine (unhide HCl _).mono ?_
  rintro e w4 ⟨rfl, hb4⟩
  have hz4 := hb4.size
  rw [size_alloc1] at hz4
  have HB4 : Hid (Below w.heap.size w w4) := HB3.out.trans (hb4.mono (by rw [size_alloc1]; omega))
  have a4 := h.above HB4.out
  have r4 := HWd.out.keep (hb4.block _ (by rw [size_alloc1]; omega))
  have HR4 := hide r4
  have c3 : w4.cell? ⟨A, 3, none⟩ = some v := a4.cell 3
  have HA4 := hide a4
  clear hb4 a4 r4 HCl
  go_upto_region 10 with fail
  refine held_pick [0, 1, 2, 3, 4, 5, 7] [6, 8, 9, 10, 11, 12, 13] 11 (fun w' => w'.cell? ⟨A, 3, none⟩ = some v ∧ RowI w' w2.heap.size 131 zw) (by kernel_rfl) (by kernel_rfl) (fun d _ _ _ _ h => by cases d <;> exact h) ⟨c3, HR4.out⟩ ?_
  iterate 5
    refine wpTakeI_step ?_ rfl rfl ?_ ?_
    rotate_left
    · rintro w' ⟨d0, d1⟩
      go_simp
      rfl
    go_simp
  refine ⟨_, .agg (S zw), rfl, yieldsIf_load_mid rfl 131 _ rfl w2.heap.size 0 rfl (zw.map (Value.int .i64)) _ (fun w' hS => by have := range_row hS.2 0 9 (by omega); rw [List.drop_zero, List.take_of_length_le (by omega)] at this; exact this) Tryz.underlying131 rfl (by rw [size9, List.length_map, hzl]), ?_⟩
  go_simp
  refine wpTakeI_step ?_ rfl rfl ?_ ?_
  rotate_left
  · rintro w' ⟨d0, d1⟩
    go_simp
    rfl
  go_simp
  refine wpTakeI_nil ?_
  refine wpTailI_step rfl rfl (fun K hK => ?_)
  go_simp
  refine (unhide HTx _).mono ?_
  rintro e w5 ⟨rfl, hb5⟩
  rw [bya_lst]
  have HB5 : Hid (Below w4.heap.size w4 w5) := (show Below w4.heap.size w4 w4.drew from (Below.refl _ w4).drew).trans hb5
  have hA4 : A < w4.heap.size := by have := HB4.out.size; omega
  have a5 := HA4.out.above HB5.out
  have HA5 := hide a5
  have c5 : w5.cell? ⟨A, 3, none⟩ = some v := a5.cell 3
  have HR5 := hide (HR4.out.keep (HB5.out.block _ (by omega)))
  refine hK _ _ (fun _ => ⟨c5, HR5.out⟩) ?_
  clear hK K hb5 a5 HTx
  refine wpTailI_step rfl rfl (fun K hK => ?_)
  go_simp
  refine hK _ _ (fun _ => ⟨c5, HR5.out⟩) ?_
  clear hK K
  have hz5 := HB5.out.size
  have HOv := hide h.list
  refine wpTailI_step rfl rfl (fun K hK => ?_)
  go_simp
  refine hK _ _ (fun _ => ⟨(World.cell?_of_block (Below.heap_alloc w5 _ A (by omega))).trans c5, HR5.out.keep (Below.heap_alloc w5 _ _ (by omega))⟩) ?_
  clear hK K
  refine wpTailI_step rfl rfl (fun K hK => ?_)
  refine wp_append_lies _ _ _ 37 rfl (A + 1) 71 inf _ 2 32 Tryz.underlying37 HInf.out HZi.out HSz.out HBy.out rfl (by decide) v a.list.length (knCs a.list) rfl (HA5.out.list.alloc _) ⟨w5.heap.size, 0, none⟩ 1 1 [.string (Bh.extract 0 (4 * c)), .string (Bh.extract (4 * c) Bh.size)] rfl rfl (World.news_of_block (_root_.Go.heap_alloc_new w5 _)) (fun u hu => by simp at hu; rcases hu with rfl | rfl <;> rfl) (by decide) (by unfold maxLen; omega) (by omega) (by show A + 1 ≤ (w5.alloc _).heap.size; rw [size_alloc1]; omega) (w5.heap.size + 1) (by show (w5.alloc _).heap.size = _; rw [size_alloc1]) ?_
  intro g cap w6 hown6 hgr hat hlt6
  have hA6 : w6.heap[A]? = w5.heap[A]? := (hgr.block A (by show A < (w5.alloc _).heap.size; rw [size_alloc1]; omega) (fun e => by have := (row_lt HOv.out A e.symm).1; omega)).trans (Below.heap_alloc w5 _ A (by omega))
  have hW6 : w6.heap[w2.heap.size]? = w5.heap[w2.heap.size]? := (hgr.block _ (by show w2.heap.size < (w5.alloc _).heap.size; rw [size_alloc1]; omega) (fun e => by have := (row_lt HOv.out _ e.symm).2; omega)).trans (Below.heap_alloc w5 _ _ (by omega))
  have c6 : w6.cell? ⟨A, 3, none⟩ = some v := (World.cell?_of_block hA6).trans c5
  have f6 : w6.frozen? ⟨A, 3, none⟩ = false := (World.frozen?_of_block hA6).trans (HA5.out.frozen 3)
  refine hK _ _ (fun _ => ⟨c6, HR5.out.keep hW6⟩) ?_
  have HO6 := hide hown6; have HGr := hide hgr; have HAt := hide hat; have HA6 := hide hA6; have HLt := hide hlt6
  clear hown6 hgr hat hK K hA6 hW6 hlt6
  refine wpTailI_step rfl rfl (fun K hK => ?_)
  go_simp
  refine hK _ _ (fun h => absurd h (by decide)) ?_
  clear hK K
  refine wpTailI_step rfl rfl (fun K hK => ?_)
  go_simp
  refine hK _ _ (fun h => absurd h (by decide)) ?_
  clear hK K
  refine wpTailI_step rfl rfl (fun K hK => ?_)
  go_simp
  refine hK _ _ (fun h => absurd h (by decide)) ?_
  clear hK K
  refine wpTailI_nil ?_
  go_wp2_with fail
  go_ret
  have hzz : w.heap.size ≤ w4.heap.size := HB4.out.size
  have B5 : Below w.heap.size w w5 := HB4.out.trans (HB5.out.mono hzz)
  have BA : Below A w w6 := ((B5.mono (Nat.le_of_lt hA)).alloc (by omega) _).grown HGr.out (by rw [size_alloc1]; omega) (fun q hq => by have := (row_lt HOv.out q hq).1; omega)
  refine ⟨⟨BA.setCell (p := ⟨A, 3, none⟩) (Nat.le_refl _) _, fun g' hg hn ho => ?_⟩, .inl ⟨_, .slice (some ⟨g, 0, none⟩) (a.list.length + 1) cap, HRs.out, rfl, ⟨?_, ?_⟩, fun g' hg' => ?_⟩⟩
  · refine (heap_set_other _ _ hn).trans (((HGr.out.block g' (by rw [size_alloc1]; omega) (fun e => ho e.symm)).trans (Below.heap_alloc w5 _ _ (by omega))).trans (B5.block g' hg))
  · have hcA : w6.heap[A]? = some (.cells (arV a.gen a.whole a.good v) 184 (0, 0)) := HA6.out.trans HA5.out.cells
    obtain ⟨hlt, hk⟩ := Array.getElem?_eq_some_iff.1 hcA
    show (w6.heap.modify A _)[A]? = _
    rw [Array.getElem?_eq_getElem (by rw [Array.size_modify]; exact hlt), Array.getElem_modify_self, hk]
    rfl
  · have e : knCs (a.list ++ [(lst (Bh.extract 0 (4 * c)), lst (Bh.extract (4 * c) Bh.size))]) = knCs a.list ++ [.string (Bh.extract 0 (4 * c)), .string (Bh.extract (4 * c) Bh.size)] := by rw [knCs_snoc, bya_lst, bya_lst]
    show World.ownsRow _ _ _ _ _ (a.list ++ [_]).length (knCs (a.list ++ [_]))
    rw [e, List.length_append]
    refine ownsRow_keep HO6.out (fun g' hg' => heap_set_other _ _ (fun e => ?_))
    have := (row_lt HO6.out g' hg').1
    omega
  · have hgg : g = g' := by simpa [Value.ownBlock] using hg'
    subst hgg
    rcases HAt.out with h | h
    · exact .inl h
    · exact .inr (by omega)
end Go.Proofs.YtmmflekajbeamabGreatDoor

namespace Go.Proofs.YtmmflekajbeamabGreatDoor
open Go.RowKit

end Go.Proofs.YtmmflekajbeamabGreatDoor

namespace Go.Proofs.YtmmflekajbeamabGreatDoor
open Go.RowKit

end Go.Proofs.YtmmflekajbeamabGreatDoor

namespace Go.Proofs.YtmmflekajbeamabGreatDoor
open Go.RowKit

end Go.Proofs.YtmmflekajbeamabGreatDoor

namespace Go.Proofs.YtmmflekajbeamabGreatDoor
open Go.RowKit

end Go.Proofs.YtmmflekajbeamabGreatDoor

namespace Go.Proofs.YtmmflekajbeamabGreatDoor
open Go.RowKit

end Go.Proofs.YtmmflekajbeamabGreatDoor

namespace Go.Proofs.YtmmflekajbeamabGreatDoor
open Go.RowKit

end Go.Proofs.YtmmflekajbeamabGreatDoor

namespace Go.Proofs.YtmmflekajbeamabGreatDoor
open Go.RowKit

end Go.Proofs.YtmmflekajbeamabGreatDoor

namespace Go.Proofs.YtmmflekajbeamabGreatDoor
open Go.RowKit

end Go.Proofs.YtmmflekajbeamabGreatDoor

namespace Go.Proofs.YtmmflekajbeamabGreatDoor
open Go.RowKit Go.Maps Go.WideMaps

theorem rowW : (131 : TypeId) < Tryz.prog.types.size := of_decide_eq_true (by kernel_rfl)
theorem wideW : (match Tryz.prog.underlying 131 with | some (.array _ _) | some (.struct _) => true | _ => false) = true := by rw [Tryz.underlying131]
set_option maxRecDepth 100000 in
theorem lawW : Keyed Tryz.prog 131 := Keyed.of_law (deep_law_laid loE (m := 3) (by omega) rowW (by kernel_rfl) wideW)
theorem ktW : Tryz.prog.keyType 131 = true := by kernel_rfl
theorem csW : Tryz.prog.cellsOf 131 = 9 := by kernel_rfl
theorem csW8 : Tryz.prog.cellsOf 22 = 8 := by kernel_rfl
def wB (x : Int) : Prop := -9223372036854775808 ≤ x ∧ x ≤ 9223372036854775807
def keyW (z : List Int) : Lit := .string (keyBytes (z.map (Lit.int .i64)))
theorem wf_of {x : Int} (h : wB x) : (Lit.int .i64 x).wf = true := by unfold wB at h; refine WalkArith.wf_i64 ?_ <;> omega
set_option maxRecDepth 100000 in
theorem keyOfW (z : List Int) (hz : z.length = 9) (hb : ∀ x ∈ z, wB x) : keyOf Tryz.prog 131 (.agg (S z)) = some (keyW z) := by
  match z, hz with
  | [a, b, c, d, e, f, g, h, i], _ =>
    have wa := wf_of (hb a (by simp))
    have wb := wf_of (hb b (by simp))
    have wc := wf_of (hb c (by simp))
    have wd := wf_of (hb d (by simp))
    have we := wf_of (hb e (by simp))
    have wf := wf_of (hb f (by simp))
    have wg := wf_of (hb g (by simp))
    have wh := wf_of (hb h (by simp))
    have wi := wf_of (hb i (by simp))
    obtain ⟨m, hm⟩ : ∃ m, Tryz.prog.types.size = m + 3 := ⟨Tryz.prog.types.size - 3, (Nat.sub_add_cancel (Nat.le_of_lt_succ (Nat.lt_of_lt_of_le (by decide : 3 < 4) (Nat.le_trans (by decide : 4 ≤ 100) (of_decide_eq_true (by kernel_rfl : decide (100 ≤ Tryz.prog.types.size + 1) = true)))))).symm⟩
    unfold keyOf
    simp only [Tryz.underlying131]
    rw [if_pos (by simp [ktW, Value.formed, Tryz.underlying131, csW, S]), hm]
    unfold Program.keyLits
    simp only [Tryz.underlying131, Value.cells]
    rw [if_pos (by rw [csW]; exact ⟨rfl, by simp⟩)]
    simp [S, csI, csW8, Program.keyLits, Tryz.underlying3, Tryz.underlying22, wa, wb, wc, wd, we, wf, wg, wh, wi, keyW, List.range, List.range.loop]
end Go.Proofs.YtmmflekajbeamabGreatDoor

namespace Go.Proofs.YtmmflekajbeamabGreatDoor
open Go.RowKit Go.Maps Go.WideMaps

/-- A block's words, and a plan. -/
abbrev KwN := List Nat × List UInt8
def wOK (ws : List Nat) : Prop := ws.length ≤ 8 ∧ ∀ x ∈ ws, x < 4294967296
theorem wdZ_b {ws : List Nat} (h : wOK ws) : ∀ x ∈ wdZ ws, wB x := by
  intro x hx
  unfold wdZ at hx
  unfold wB
  rcases List.mem_cons.1 hx with rfl | hx
  · have := h.1; omega
  · rcases List.mem_append.1 hx with hx | hx
    · unfold nI at hx
      obtain ⟨y, hy, rfl⟩ := List.mem_map.1 hx
      have := h.2 y hy
      omega
    · unfold zr at hx
      have := (List.mem_replicate.1 hx).2
      omega
def kW (ws : List Nat) : Lit := keyW (wdZ ws)
theorem keyOfWs {ws : List Nat} (h : wOK ws) : keyOf Tryz.prog 131 (.agg (S (wdZ ws))) = some (kW ws) := keyOfW (wdZ ws) (wdZ_len h.1) (wdZ_b h)
theorem wdZ_inj {ws ws' : List Nat} (e : wdZ ws = wdZ ws') : ws = ws' := by
  have h0 : (ws.length : Int) = (ws'.length : Int) := by have := congrArg (fun z => gz z 0) e; simpa [wdZ_0] using this
  have hl : ws.length = ws'.length := by omega
  apply List.ext_getElem?
  intro i
  rcases Nat.lt_or_ge i ws.length with hi | hi
  · have h1 := wdZ_at (ws := ws) hi
    have h2 := wdZ_at (ws := ws') (i := i) (by omega)
    rw [e, h2] at h1
    rw [List.getElem?_eq_getElem hi, List.getElem?_eq_getElem (by omega : i < ws'.length)]
    have q1 : ws.getD i 0 = ws[i] := by simp [List.getD, hi]
    have q2 : ws'.getD i 0 = ws'[i]'(by omega) := by simp [List.getD, (by omega : i < ws'.length)]
    rw [q1, q2] at h1
    congr 1
    omega
  · rw [List.getElem?_eq_none hi, List.getElem?_eq_none (by omega)]
theorem kW_inj {ws ws' : List Nat} (h : wOK ws) (h' : wOK ws') (e : kW ws = kW ws') : ws = ws' := by
  have h1 := keyOfWs h
  have h2 := keyOfWs h'
  rw [e] at h1
  have h3 := lawW.inj h1 h2
  have h4 : S (wdZ ws) = S (wdZ ws') := by simpa using h3
  refine wdZ_inj ?_
  unfold S at h4
  have h5 : (wdZ ws).map (Value.int .i64) = (wdZ ws').map (Value.int .i64) := by simpa using h4
  exact List.map_inj_right (fun a b q => by cases q; rfl) |>.1 h5
/-- The words of a book. -/
def bkW (l : List KwN) : List (List Nat) := l.map (·.1)
def bkCs (l : List KwN) : List Value := knCs (l.map fun k => (wdsT k.1, k.2))
/-- A map's datum tells where the words stand. -/
def BoOK (D : DataW Unit) (T : List (List Nat)) : Prop :=
  ∀ ws, wOK ws → (Maps.has D (kW ws) = true ↔ ws ∈ T) ∧ ∀ n : Nat, T[n]? = some ws → (∀ m : Nat, T[m]? = some ws → m = n) → D.atKey (kW ws) (.lit (.int .i64 0)) = .lit (.int .i64 (n : Int))
theorem BoOK.add {D : DataW Unit} {T : List (List Nat)} (h : BoOK D T) (hD : IsMap D) {e : List Nat} (he : wOK e) (hn : e ∉ T) : BoOK (D.put (kW e) (.lit (.int .i64 (T.length : Int)))) (T ++ [e]) := by
  intro e' he'
  obtain ⟨h1, h2⟩ := h e' he'
  by_cases hee : e' = e
  · subst hee
    refine ⟨⟨fun _ => by simp, fun _ => ?_⟩, fun n hn' _ => ?_⟩
    · rw [has_put_same hD (lawW.key (keyOfWs he'))]
    · rw [atKey_put_same hD (lawW.key (keyOfWs he'))]
      have : n = T.length := by
        by_cases hl : n < T.length
        · rw [List.getElem?_append_left hl] at hn'
          exact absurd (List.mem_of_getElem? hn') hn
        · have := (List.getElem?_eq_some_iff.1 hn').1
          simp at this
          omega
      rw [this]
  · have hk : kW e' ≠ kW e := fun q => hee (kW_inj he' he q)
    refine ⟨?_, fun n hn' hu => ?_⟩
    · rw [has_put_other hk, h1]
      simp [hee]
    · rw [atKey_put_other hk]
      have hl : n < T.length := by
        by_cases hl : n < T.length
        · exact hl
        · rw [List.getElem?_append_right (by omega)] at hn'
          have h0 := (List.getElem?_eq_some_iff.1 hn').1
          have h00 : n - T.length = 0 := by simp at h0; omega
          rw [h00] at hn'
          simp at hn'
          exact absurd hn'.symm hee
      rw [List.getElem?_append_left hl] at hn'
      exact h2 n hn' (fun m hm => hu m (by rw [List.getElem?_append_left (List.getElem?_eq_some_iff.1 hm).1]; exact hm))
/-- A book at offset o of block N; what it owns lies from block B on. A nil map has nothing. -/
structure BoAt (B N o : Nat) (l : List KwN) (mv v : Value) (w : World) : Prop where
  c0 : w.cell? ⟨N, o, none⟩ = some mv
  c1 : w.cell? ⟨N, o + 1, none⟩ = some v
  nv : v.ownBlock ≠ some N
  ls : w.ownsRow B 71 2 v l.length (bkCs l)
  ok : ∀ k ∈ l, wOK k.1
  one : ∀ i j : Nat, i < l.length → (bkW l)[i]? = (bkW l)[j]? → i = j
  mp : (mv = .map none ∧ l = []) ∨ ∃ b D, mv = .map (some b) ∧ B ≤ b ∧ w.ownsMap Tryz.prog 131 (plainElem Tryz.prog 3) b l.length D ∧ BoOK D (bkW l)
end Go.Proofs.YtmmflekajbeamabGreatDoor
