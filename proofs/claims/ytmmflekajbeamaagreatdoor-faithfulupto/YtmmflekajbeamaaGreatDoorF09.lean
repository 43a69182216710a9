/-
  THE LAW Written: its small functions: pick, digits.
  Lists of bytes as texts.
  Plans, the document's answer: numbers as texts; expressions as texts (Number, constant, joined, loaded, begin).
  Translates: whole numbers laid behind bytes (number.Append); bytes as a string.
  Translates: the text of a plan (plans.Text); puts with what is known (withKnown).
  Translates: the words of a block at a place of the memory (block.At), and their text (Text).
-/
import Derived.Test.YtmmflekajbeamaaGreatDoorF04
import Derived.Laws.IdiomStrings
import Derived.Test.YtmmflekajbeamaaGreatDoorF05
import Derived.Test.YtmmflekajbeamaaGreatDoorF08
import Derived.Test.YtmmflekajbeamaaGreatDoorF02
import Derived.Lib.BufferRead
import Derived.Test.YtmmflekajbeamaaGreatDoorF07
namespace Go.Proofs.YtmmflekajbeamaaGreatDoor
open Go.RowKit

/-- Which of n things a number speaks of. -/
def pickI (c n : Int) : Int := if c < 0 then (-(c + 1)) % n else c % n
theorem pickI_bd (c n : Int) (h : 0 < n) : 0 ≤ pickI c n ∧ pickI c n < n := by
  unfold pickI
  split
  · exact ⟨Int.emod_nonneg _ (by omega), Int.emod_lt_of_pos _ h⟩
  · exact ⟨Int.emod_nonneg _ (by omega), Int.emod_lt_of_pos _ h⟩

set_option maxRecDepth 100000 in
set_option maxHeartbeats 1000000 in
theorem pick_any (c n : Int) (w : World) (h0 : -9223372036854775808 ≤ c) (h1 : c ≤ 9223372036854775807) (hn : 0 < n) (hn1 : n ≤ 4294967296) :
    Calls Tryz.prog 22 #[.int .i64 c, .int .i64 n] w fun e' w' => e' = .returned (.int .i64 (pickI c n)) ∧ w' = w := by
  have hb := pickI_bd c n hn
  have hn0 : ¬ n = 0 := by omega
  by_cases hc : c < 0
  · have ht : (-(c + 1)).tmod n = pickI c n := by
      unfold pickI
      rw [if_pos hc, Int.tmod_eq_emod_of_nonneg (by omega)]
    generalize pickI c n = r at *
    go_enter Tryz.func22, Tryz.ntmps22
    go_wp2
    go_ret
    exact ⟨by go_num, rfl⟩
  · have ht : c.tmod n = pickI c n := by
      unfold pickI
      rw [if_neg hc, Int.tmod_eq_emod_of_nonneg (by omega)]
    generalize pickI c n = r at *
    go_enter Tryz.func22, Tryz.ntmps22
    go_wp2
    go_ret
    exact ⟨by go_num, rfl⟩
end Go.Proofs.YtmmflekajbeamaaGreatDoor

namespace Go.Proofs.YtmmflekajbeamaaGreatDoor
open Go.RowKit

def bya (l : List UInt8) : ByteArray := ⟨l.toArray⟩
theorem bya_size (l : List UInt8) : (bya l).size = l.length := by simp [bya, ByteArray.size]
theorem bya_app (a b : List UInt8) : bya a ++ bya b = bya (a ++ b) := by
  apply ByteArray.ext
  simp [bya]
theorem bya_list (l : List UInt8) : (bya l).data.toList = l := by simp [bya]
end Go.Proofs.YtmmflekajbeamaaGreatDoor

namespace Go.Proofs.YtmmflekajbeamaaGreatDoor
open Go.RowKit

theorem byte_str (w : World) (q : Nat) : (convert 136 9 (.slice (some ⟨w.heap.size, 0, none⟩) 1 1)).run Tryz.prog (w.alloc (.cells #[.int .u8 ((q : Int) % 256)] 5)) = .ok (.string (bya [UInt8.ofNat (q % 256)])) (w.alloc (.cells #[.int .u8 ((q : Int) % 256)] 5)) := by
  refine run_convert_bytes_back _ _ _ 5 ⟨w.heap.size, 0, none⟩ 1 [UInt8.ofNat (q % 256)] Tryz.underlying136 Tryz.underlying5 Tryz.underlying9 (fun j hj => ?_)
  match j, hj with
  | 0, _ =>
    show (w.alloc _).cell? ⟨w.heap.size, 0, none⟩ = some (.int .u8 ((UInt8.ofNat (q % 256)).toNat : Int))
    rw [World.cell?_alloc_at (hn := rfl), UInt8.toNat_ofNat', Nat.mod_mod]
    simp
theorem numB_succ (k v : Nat) : bya [UInt8.ofNat (v / 256 ^ k % 256)] ++ bya (numB k v) = bya (numB (k + 1) v) := by rw [bya_app]; rfl

set_option maxRecDepth 100000 in
set_option maxHeartbeats 1000000 in
theorem number_ref (v n : Nat) (w : World) (hn : n ≤ 8) (hv : v < 9223372036854775808) :
    Calls Tryz.prog 137 #[.int .i64 (v : Int), .int .i64 (n : Int)] w fun e' w' => e' = .returned (.string (bya (numB n v))) ∧ Below w.heap.size w w' := by
  go_enter Tryz.func137, Tryz.ntmps137
  go_wp2_with fail
  go_loopw [0, 5, 6] (fun x s i wr => ∃ k : Nat, k ≤ n ∧ i = .int .i64 k ∧ s = .string (bya (numB k v)) ∧ x = .int .i64 ((v / 256 ^ k : Nat) : Int) ∧ Below w.heap.size w wr) (fun _ _ i _ => n - (intOf i).toNat)
  case atStart => exact ⟨0, Nat.zero_le _, rfl, rfl, by simp, Below.refl _ _⟩
  case round =>
    obtain ⟨k, hk, rfl, rfl, rfl, hbl⟩ := hrel
    have HBl := hide hbl
    have hwz := hbl.size
    by_cases hlt : k < n
    · have hlt' : (k : Int) < (n : Int) := by omega
      have hq : v / 256 ^ k < 9223372036854775808 := Nat.lt_of_le_of_lt (Nat.div_le_self _ _) hv
      have HE := hide (numB_succ k v)
      have HQ : Hid (v / 256 ^ (k + 1) = v / 256 ^ k / 256) := by unfold Hid; rw [Nat.pow_succ, Nat.div_div_eq_div_mul]
      have kc := byte_str wr (v / 256 ^ k)
      have z1 : (bya (numB k v)).size ≤ 8 := by rw [bya_size, numB_len]; omega
      have z2 : (bya [UInt8.ofNat (v / 256 ^ k % 256)]).size ≤ 8 := by rw [bya_size]; exact Nat.le_of_ble_eq_true rfl
      generalize bya (numB k v) = D1 at *
      generalize bya [UInt8.ofNat (v / 256 ^ k % 256)] = D2 at *
      generalize v / 256 ^ k = q at *
      clear hbl
      go_wp2_with fail
      refine ⟨⟨k + 1, by omega, by go_num, ?_, ?_, HBl.out.alloc hwz _⟩, by simp [intOf]; omega⟩
      · rw [HE.out]
      · rw [HQ.out]; go_num
    · have hlt' : ¬ (k : Int) < (n : Int) := by omega
      obtain rfl : k = n := by omega
      clear hbl
      go_wp2_with fail
      go_ret
      exact ⟨rfl, HBl.out⟩

end Go.Proofs.YtmmflekajbeamaaGreatDoor

namespace Go.Proofs.YtmmflekajbeamaaGreatDoor
open Go.RowKit

def u8C (l : List UInt8) : List Value := l.map fun b => .int .u8 (b.toNat : Int)
theorem u8C_app (l m : List UInt8) : u8C (l ++ m) = u8C l ++ u8C m := by simp [u8C]
theorem infoU8 : ∃ i, Tryz.prog.info? 5 = some i ∧ i.zero = some (.int .u8 0) ∧ i.size = 1 ∧ i.bytes = 1 := by
  have h : (Tryz.prog.info? 5).map (fun i => (i.zero, i.size, i.bytes)) = some (some (.int .u8 0), 1, 1) := by kernel_rfl
  cases hq : Tryz.prog.info? 5 with
  | none => rw [hq] at h; cases h
  | some i =>
    rw [hq] at h
    simp only [Option.map_some, Option.some.injEq, Prod.mk.injEq] at h
    exact ⟨i, rfl, h.1, h.2.1, h.2.2⟩
theorem byte_of (v m : Nat) : ((UInt8.ofNat (v / 256 ^ m % 256)).toNat : Int) = ((v / 256 ^ m : Nat) : Int) % 256 := by
  rw [UInt8.toNat_ofNat', Nat.mod_mod]; simp
theorem pow_256 (m : Nat) : 256 ^ m = 2 ^ (8 * m) := by rw [Nat.pow_mul]
/-- A slice of bytes as a string. -/
theorem u8_str {w : World} {B : Nat} {v : Value} {l : List UInt8} (h : w.ownsRow B 5 1 v l.length (u8C l)) : (convert 136 9 v).run Tryz.prog w = .ok (.string (bya l)) w := by
  by_cases h0 : l.length = 0
  · obtain rfl : l = [] := List.length_eq_zero_iff.1 h0
    rcases h.2 with ⟨rfl, _⟩ | ⟨g, cap, cur, rfl, _⟩
    · exact Lib.run_convert_nil_bytes _ _ _ 5 _ Tryz.underlying136 Tryz.underlying5 Tryz.underlying9
    · exact run_convert_bytes_back _ _ _ 5 ⟨g, 0, none⟩ cap [] Tryz.underlying136 Tryz.underlying5 Tryz.underlying9 (fun j hj => by cases hj)
  · obtain ⟨g, cap, rfl, _, hgl⟩ := h.form (by omega)
    refine run_convert_bytes_back _ _ _ 5 ⟨g, 0, none⟩ cap l Tryz.underlying136 Tryz.underlying5 Tryz.underlying9 (fun j hj => ?_)
    have e : (⟨g, 0, none⟩ : Addr).add j = ⟨g, j, none⟩ := by simp [Addr.add]; omega
    rw [e, h.cellAt _ (by omega)]
    simp [u8C, List.getElem?_eq_getElem hj]

set_option maxRecDepth 100000 in
set_option maxHeartbeats 2000000 in
theorem numAppend_any (B : Nat) (bv : Value) (xs : List UInt8) (v k : Nat) (w : World) (hB : B ≤ w.heap.size) (hb : w.ownsRow B 5 1 bv xs.length (u8C xs)) (hx : xs.length ≤ 100000) (hk8 : k ≤ 7) :
    Calls Tryz.prog 102 #[bv, .int .i64 (v : Int), .int .i64 (k : Int)] w fun e' w' => ∃ v', e' = .returned v' ∧ w'.ownsRow B 5 1 v' (xs ++ numB k v).length (u8C (xs ++ numB k v)) ∧ Below B w w' ∧ ∀ g, g < w.heap.size → bv.ownBlock ≠ some g → w'.heap[g]? = w.heap[g]? := by
  obtain ⟨inf, hinf, hz, hsz1, hby⟩ := infoU8
  have HInf := hide hinf; have HZ := hide hz; have HSz := hide hsz1; have HBy := hide hby
  clear hinf hz hsz1 hby
  obtain ⟨ba, bc, rfl⟩ := owns_len hb
  have HO := hide hb
  clear hb
  go_enter Tryz.func102, Tryz.ntmps102
  go_wp2_with fail
  go_loopw [0, 7] (fun x i wr => ∃ (m : Nat) (D : List UInt8), m ≤ k ∧ i = .int .i64 ((m : Int) - 1) ∧ Hid (D ++ numB m v = numB k v) ∧ Hid (wr.ownsRow B 5 1 x (xs ++ D).length (u8C (xs ++ D))) ∧ Hid (Below B w wr) ∧ Hid (∀ g, g < w.heap.size → (Value.slice ba xs.length bc).ownBlock ≠ some g → wr.heap[g]? = w.heap[g]? ∧ x.ownBlock ≠ some g)) (fun _ i _ => ((intOf i) + 1).toNat)
  case atStart => exact ⟨k, [], Nat.le_refl _, rfl, rfl, by rw [List.append_nil]; exact HO.out, Below.refl _ _, fun g _ h => ⟨rfl, h⟩⟩
  case round =>
    obtain ⟨m, D, hm, rfl, HD, HOw, HBl, HKp⟩ := hrel
    obtain ⟨va, vc, hv'⟩ := owns_len HOw.out
    subst hv'
    have hwz := HBl.out.size
    have hDl : D.length + m = k := by have := congrArg List.length HD.out; rw [List.length_append, numB_len, numB_len] at this; exact this
    cases m with
    | zero =>
      have HE : Hid (xs ++ D = xs ++ numB k v) := by unfold Hid; rw [← HD.out]; simp [numB]
      go_wp2_with fail
      go_ret
      refine ⟨_, rfl, ?_, HBl.out, fun g hg hn => (HKp.out g hg hn).1⟩
      rw [← HE.out]
      exact HOw.out
    | succ m =>
      have hi : ((m + 1 : Nat) : Int) - 1 = (m : Int) := by omega
      have HN : Hid ((D ++ [UInt8.ofNat (v / 256 ^ m % 256)]) ++ numB m v = numB k v) := by unfold Hid; rw [← HD.out]; simp [numB]
      have hm7 : (m : Int) < 7 := by omega
      have hlen : (xs ++ D).length + 1 = (xs ++ (D ++ [UInt8.ofNat (v / 256 ^ m % 256)])).length := by simp; omega
      have HL := hide hlen
      have hxl : (xs ++ D).length ≤ 200000 := by rw [List.length_append]; omega
      have HCs : Hid (u8C (xs ++ (D ++ [UInt8.ofNat (v / 256 ^ m % 256)])) = u8C (xs ++ D) ++ [.int .u8 ((v : Int) / 2 ^ (8 * m) % 256)]) := by
        unfold Hid
        rw [← List.append_assoc, u8C_app]
        show _ ++ [Value.int .u8 ((UInt8.ofNat (v / 256 ^ m % 256)).toNat : Int)] = _
        rw [byte_of, pow_256]; simp
      rw [hi]
      clear hi hlen
      generalize (xs ++ D).length = n at *
      go_wp2_with (at_builtin; refine wpList_append_lies _ rfl _ _ 136 rfl B 5 inf _ 1 1 Tryz.underlying136 HInf.out HZ.out HSz.out HBy.out rfl (by decide) (.slice va n vc) n (u8C (xs ++ D)) rfl (HOw.out.alloc _) ⟨wr.heap.size, 0, none⟩ 1 1 [.int .u8 ((v : Int) / 2 ^ (8 * m) % 256)] rfl rfl (World.news_of_block (_root_.Go.heap_alloc_new wr _)) (fun u hu => by simp at hu; subst hu; rfl) (by decide) (by unfold maxLen; omega) (by omega) (by rw [size_alloc1]; omega) (wr.heap.size + 1) (by rw [size_alloc1]) ?_; intro g2' cap2 w3 hown2 hgr2 hat2 hlt2; have HO3 := hide hown2; have HGr := hide hgr2; have HAt := hide hat2; clear hown2 hgr2 hat2)
      refine ⟨⟨m, D ++ [UInt8.ofNat (v / 256 ^ m % 256)], by omega, by go_num, HN.out, ?_, ?_, ?_⟩, by simp [intOf]⟩
      · unfold Hid
        rw [← HL.out, HCs.out]
        exact HO3.out
      · exact (HBl.out.alloc (by omega) _).grown HGr.out (by rw [size_alloc1]; omega) (fun q hq => (row_lt HOw.out q hq).1)
      · intro g hg hn
        obtain ⟨k1, k2⟩ := HKp.out g hg hn
        refine ⟨((HGr.out.block _ (by rw [size_alloc1]; omega) (fun e => k2 e.symm)).trans (Below.heap_alloc wr _ _ (by omega))).trans k1, ?_⟩
        rcases HAt.out with h | h
        · intro e
          apply k2
          rw [h]
          exact e
        · intro e
          have : g2' = g := by simpa [Value.ownBlock] using e
          omega
end Go.Proofs.YtmmflekajbeamaaGreatDoor

namespace Go.Proofs.YtmmflekajbeamaaGreatDoor
open Go.RowKit

theorem planT_take {ps : List PutN} {k : Nat} {p : PutN} (h : ps[k]? = some p) : planT (ps.take (k + 1)) = planT (ps.take k) ++ putT p := by rw [take_snoc' h, planT_snoc]
theorem u8_of (n : Nat) (h : n < 256) : ((UInt8.ofNat n).toNat : Int) = (n : Int) := by
  rw [UInt8.toNat_ofNat']; omega
theorem cell_heap {w w' : World} {g : Nat} (i : Nat) (h : w'.heap[g]? = w.heap[g]?) : w'.cell? ⟨g, i, none⟩ = w.cell? ⟨g, i, none⟩ := by
  unfold World.cell?
  rw [h]
theorem cell_row {w : World} {g : Nat} {c : Array Value} {t : TypeId} (h : w.heap[g]? = some (.cells c t)) (i : Nat) : w.cell? ⟨g, i, none⟩ = c[i]? := by
  unfold World.cell?
  rw [h]; rfl
set_option maxRecDepth 100000 in
set_option maxHeartbeats 2000000 in
theorem planText_any (B : Nat) (pv : Value) (ps : List PutN) (w : World) (ho : w.ownsRow B 123 5 pv ps.length (putCs ps)) (hl : ps.length ≤ 8) (hw : ∀ p ∈ ps, okB p) :
    Calls Tryz.prog 213 #[pv] w fun e' w' => e' = .returned (.string (bya (planT ps))) ∧ Below w.heap.size w w' := by
  obtain ⟨inf, hinf, hz, hsz1, hby⟩ := infoU8
  have HInf := hide hinf; have HZ := hide hz; have HSz := hide hsz1; have HBy := hide hby
  clear hinf hz hsz1 hby
  obtain ⟨fa', fc', rfl⟩ := owns_len ho
  have HF := hide ho; have HW := hide hw
  have hl' : (ps.length : Int) ≤ 8 := by omega
  clear ho hw
  go_enter Tryz.func213, Tryz.ntmps213
  go_wp2_with fail
  go_loopw [3, 8] (fun v i wr => ∃ k : Nat, k ≤ ps.length ∧ i = .int .i64 k ∧ wr.ownsRow w.heap.size 5 1 v (planT (ps.take k)).length (u8C (planT (ps.take k))) ∧ Below w.heap.size w wr) (fun _ i _ => ps.length - (intOf i).toNat)
  case atStart => exact ⟨0, Nat.zero_le _, rfl, World.ownsRow_nil _ _ _ _, Below.refl _ _⟩
  case round =>
    obtain ⟨k, hk, rfl, hown, hbl⟩ := hrel
    obtain ⟨va, vc, hv⟩ := owns_len hown
    have HO := hide hown; have HBl := hide hbl
    have hwz := hbl.size
    have hTl : (planT (ps.take k)).length ≤ 64 := by rw [planT_len, List.length_take]; omega
    by_cases hlt : k < ps.length
    · have hlt' : (k : Int) < (ps.length : Int) := by omega
      obtain ⟨g, cap, hform, _, hgl⟩ := HF.out.form (by omega)
      cases hform
      have hx : ps[k]? = some ps[k] := List.getElem?_eq_getElem hlt
      have hok := HW.out ps[k] (List.getElem_mem _)
      obtain ⟨x0, x1, x2, x3, x4⟩ := put_cells (own_grow HF.out hbl) k ps[k] hx
      have HS := hide (planT_take hx)
      generalize ps[k] = p at *
      obtain ⟨p0, p1, p2, p3, p4⟩ := p
      obtain ⟨q1, q2, q3, q4, q5, q6, _⟩ := hok
      simp only at q1 q2 q3 q4 q5 q6 x0 x1 x2 x3 x4
      subst hv
      have q0' : (p0 : Int) < 256 := by omega
      have q1' : (p1 : Int) < 256 := by omega
      have q2' : (p2 : Int) < 256 := by omega
      have q3' : (p3 : Int) < 256 := by omega
      have HC4 : Hid (u8C (planT (ps.take k)) ++ [.int .u8 (p0 : Int), .int .u8 (p1 : Int), .int .u8 (p2 : Int), .int .u8 (p3 : Int)] = u8C (planT (ps.take k) ++ [UInt8.ofNat p0, UInt8.ofNat p1, UInt8.ofNat p2, UInt8.ofNat p3])) := by
        unfold Hid
        rw [u8C_app]
        simp only [u8C, List.map_cons, List.map_nil, u8_of p0 (by omega), u8_of p1 (by omega), u8_of p2 (by omega), u8_of p3 (by omega)]
      have HE : Hid (planT (ps.take (k + 1)) = (planT (ps.take k) ++ [UInt8.ofNat p0, UInt8.ofNat p1, UInt8.ofNat p2, UInt8.ofNat p3]) ++ numB 4 p4) := by
        unfold Hid
        rw [HS.out]
        simp [putT]
      have HL4 : Hid ((planT (ps.take k)).length + 4 = (planT (ps.take k) ++ [UInt8.ofNat p0, UInt8.ofNat p1, UInt8.ofNat p2, UInt8.ofNat p3]).length) := by unfold Hid; simp
      have HO' := hide (own_grow hown ((Below.refl _ _).alloc (Nat.le_refl _) (.cells #[.int .i64 (p0 : Int), .int .i64 (p1 : Int), .int .i64 (p2 : Int), .int .i64 (p3 : Int), .int .i64 (p4 : Int)] 123)))
      have HC : Hid (∀ w3, ((wr.alloc (.cells #[.int .i64 (p0 : Int), .int .i64 (p1 : Int), .int .i64 (p2 : Int), .int .i64 (p3 : Int), .int .i64 (p4 : Int)] 123)).alloc (.cells #[.int .u8 (p0 : Int), .int .u8 (p1 : Int), .int .u8 (p2 : Int), .int .u8 (p3 : Int)] 5)).grownBy w3 (Value.slice va (planT (ps.take k)).length vc).ownBlock → w3.cell? ⟨wr.heap.size, 4, none⟩ = some (.int .i64 (p4 : Int))) := fun w3 hg => by
        have hne : some wr.heap.size ≠ (Value.slice va (planT (ps.take k)).length vc).ownBlock := fun e => by have := (row_lt hown _ e.symm).2; omega
        rw [cell_heap 4 ((hg.block wr.heap.size (by rw [size_alloc1, size_alloc1]; omega) hne).trans (Below.heap_alloc _ _ _ (by rw [size_alloc1]; omega))), cell_row (_root_.Go.heap_alloc_new wr _)]
        rfl
      generalize planT (ps.take k) = T at *
      generalize T.length = n at *
      clear hown hbl HS hx
      go_wp2_with (at_builtin; refine wpList_append_lies _ rfl _ _ 136 rfl w.heap.size 5 inf _ 1 1 Tryz.underlying136 HInf.out HZ.out HSz.out HBy.out rfl (by decide) (.slice va n vc) n (u8C T) rfl (HO'.out.alloc _) ⟨wr.heap.size + 1, 0, none⟩ 4 4 [.int .u8 (p0 : Int), .int .u8 (p1 : Int), .int .u8 (p2 : Int), .int .u8 (p3 : Int)] rfl rfl (World.news_of_block (by rw [← size_alloc1]; exact _root_.Go.heap_alloc_new _ _)) (fun u hu => by simp at hu; rcases hu with rfl | rfl | rfl | rfl <;> rfl) (by decide) (by unfold maxLen; omega) (by omega) (by rw [size_alloc1, size_alloc1]; omega) (wr.heap.size + 1 + 1) (by rw [size_alloc1, size_alloc1]) ?_; intro g2' cap2 w3 hown2 hgr2 hat2 hlt2; have HO3 := hide hown2; have HGr := hide hgr2; have c4 := HC.out w3 hgr2; clear hown2 hgr2 hat2)
      have hz3 : wr.heap.size + 1 + 1 ≤ w3.heap.size := by have := HGr.out.size; rw [size_alloc1, size_alloc1] at this; exact this
      rw [HC4.out] at HO3
      rw [HL4.out] at HO3
      have HAp := hide (numAppend_any w.heap.size _ _ p4 4 w3 (by omega) HO3.out (by rw [← HL4.out]; omega) (by decide))
      rw [← HL4.out] at HAp
      have HB3 : Hid (Below w.heap.size w w3) := ((HBl.out.alloc hwz _).alloc (by rw [size_alloc1]; omega) _).grown HGr.out (by rw [size_alloc1, size_alloc1]; omega) (fun q hq => (row_lt HO'.out q hq).1)
      clear HO3 HGr
      refine (unhide HAp).mono ?_
      rintro e w4 ⟨v', rfl, b1, b2, b3⟩
      have HO4 := hide b1
      have HB4 : Hid (Below w.heap.size w w4) := HB3.out.trans b2
      clear b1 b2 b3
      go_wp2_with fail
      refine ⟨⟨k + 1, by omega, by go_num, ?_, HB4.out⟩, by simp [intOf]; omega⟩
      rw [HE.out]
      exact HO4.out
    · have hlt' : ¬ (k : Int) < (ps.length : Int) := by omega
      have hkn : k = ps.length := by omega
      subst hkn
      rw [List.take_length] at HO hv
      have kc := u8_str HO.out
      subst hv
      clear hown hbl
      go_wp2_with fail
      go_ret
      exact ⟨rfl, HBl.out⟩

def putZ (p : PutN) : List Int := [(p.kind : Int), (p.d : Int), (p.a : Int), (p.b : Int), (p.k : Int)]
/-- The last puts, as cells. -/
def lastZ (l : List PutN) : List Int := l.flatMap putZ
theorem lastZ_len (l : List PutN) : (lastZ l).length = l.length * 5 := by
  induction l with
  | nil => rfl
  | cons p l ih => simp [lastZ, putZ] at *; omega
theorem flat_atG {α β : Type} (f : α → List β) (m : Nat) (hf : ∀ a, (f a).length = m) : ∀ (l : List α) (k : Nat) (x : α), l[k]? = some x → ∀ j, j < m → (l.flatMap f)[k * m + j]? = (f x)[j]? := by
  intro l
  induction l with
  | nil => intro k x hk; simp at hk
  | cons a l ih =>
    intro k x hk j hj
    rw [List.flatMap_cons]
    match k, hk with
    | 0, hk =>
      simp at hk
      subst hk
      rw [Nat.zero_mul, Nat.zero_add, List.getElem?_append_left (by rw [hf]; exact hj)]
    | k + 1, hk =>
      rw [List.getElem?_append_right (by rw [hf, Nat.succ_mul]; omega), hf, show (k + 1) * m + j - m = k * m + j by rw [Nat.succ_mul]; omega]
      exact ih k x (by simpa using hk) j hj
theorem lastZ_get (l : List PutN) (r : Nat) (hr : r < l.length) (j : Nat) (hj : j < 5) : gz (lastZ l) (r * 5 + j) = (putZ (l.getD r zPut)).getD j 0 := by
  have hx : l[r]? = some (l.getD r zPut) := by rw [List.getD_eq_getElem?_getD, List.getElem?_eq_getElem hr]; rfl
  have := flat_atG putZ 5 (fun _ => rfl) l r (l.getD r zPut) hx j hj
  unfold gz lastZ
  rw [List.getD_eq_getElem?_getD (l := l.flatMap putZ), this, ← List.getD_eq_getElem?_getD]
theorem zero190 (w : World) : (zeroValue 308).run Tryz.prog w = .ok (.agg (S (lastZ (List.replicate 8 zPut)))) w := by kernel_rfl
end Go.Proofs.YtmmflekajbeamaaGreatDoor

namespace Go.Proofs.YtmmflekajbeamaaGreatDoor
open Go.RowKit

theorem wdsT_take {ws : List Nat} {k x : Nat} (h : ws[k]? = some x) : wdsT (ws.take (k + 1)) = wdsT (ws.take k) ++ numB 4 x := by rw [take_snoc' h, wdsT_snoc]
set_option maxRecDepth 100000 in
set_option maxHeartbeats 2000000 in
theorem wdText_any (ws : List Nat) (w : World) (hl : ws.length ≤ 8) (hw : ∀ v ∈ ws, v < 4294967296) :
    Calls Tryz.prog 203 #[.agg (S (wdZ ws))] w fun e' w' => e' = .returned (.string (bya (wdsT ws))) ∧ Below w.heap.size w w' := by
  have hzl := wdZ_len hl
  have hr : RowI (w.alloc (.cells (S (wdZ ws)) 187)) w.heap.size 187 (wdZ ws) := _root_.Go.heap_alloc_new w _
  have hb1 := hide ((Below.refl w.heap.size w).alloc (Nat.le_refl _) (.cells (S (wdZ ws)) 187))
  have c0 := hr.cell 0 (by omega)
  rw [wdZ_0] at c0
  have HRr := hide hr
  have HWd : Hid (∀ k, k < ws.length → ws[k]? = some (ws.getD k 0) ∧ ws.getD k 0 < 4294967296 ∧ gz (wdZ ws) (1 + k) = (ws.getD k 0 : Nat)) := fun k hk' => by
    refine ⟨by rw [List.getD_eq_getElem?_getD, List.getElem?_eq_getElem hk']; rfl, ?_, wdZ_at hk'⟩
    rw [List.getD_eq_getElem?_getD, List.getElem?_eq_getElem hk']
    exact hw _ (List.getElem_mem _)
  have hl' : (ws.length : Int) ≤ 8 := by omega
  clear hr hw
  go_enter Tryz.func203, Tryz.ntmps203
  go_wp2_with fail
  go_loopw [3, 11] (fun v i wr => ∃ k : Nat, k ≤ ws.length ∧ i = .int .i64 k ∧ wr.ownsRow (w.heap.size + 1) 5 1 v (wdsT (ws.take k)).length (u8C (wdsT (ws.take k))) ∧ RowI wr w.heap.size 187 (wdZ ws) ∧ Below w.heap.size w wr) (fun _ i _ => ws.length - (intOf i).toNat)
  case atStart => exact ⟨0, Nat.zero_le _, rfl, World.ownsRow_nil _ _ _ _, HRr.out, hb1.out⟩
  case round =>
    obtain ⟨k, hk, rfl, hown, hrow, hbl⟩ := hrel
    obtain ⟨va, vc, hv⟩ := owns_len hown
    have HO := hide hown; have HBl := hide hbl; have HRw := hide hrow
    have hwz : w.heap.size < wr.heap.size := hrow.lt
    have hTl : (wdsT (ws.take k)).length ≤ 32 := by rw [wdsT_len, List.length_take]; omega
    by_cases hlt : k < ws.length
    · have hlt' : (k : Int) < (ws.length : Int) := by omega
      obtain ⟨e1, e2, e3⟩ := HWd.out k hlt
      have cc := hrow.cell (1 + k) (by omega)
      rw [e3] at cc
      have HS := hide (wdsT_take e1)
      have HAp := hide (numAppend_any (w.heap.size + 1) u3 (wdsT (ws.take k)) (ws.getD k 0) 4 wr (by omega) hown (by omega) (by decide))
      subst hv
      generalize ws.getD k 0 = x at *
      clear e1 e2 e3 hown hrow hbl
      go_wp2_with fail
      refine (unhide HAp).mono ?_
      rintro e w2 ⟨v', rfl, b1, b2, b3⟩
      have HB2 := hide b2; have HO2 := hide b1
      have HR2 : Hid (RowI w2 w.heap.size 187 (wdZ ws)) := HRw.out.keep (b2.block _ (by omega))
      clear b1 b2 b3
      go_wp2_with fail
      refine ⟨⟨k + 1, by omega, by go_num, ?_, HR2.out, HBl.out.trans (HB2.out.mono (by omega))⟩, by simp [intOf]; omega⟩
      rw [HS.out]
      exact HO2.out
    · have hlt' : ¬ (k : Int) < (ws.length : Int) := by omega
      have hkn : k = ws.length := by omega
      subst hkn
      rw [List.take_length] at HO hv
      have kc := u8_str HO.out
      subst hv
      clear hown hrow hbl
      go_wp2_with fail
      go_ret
      exact ⟨rfl, HBl.out⟩

theorem blkW_len (mem : List Int) (pc n : Nat) : (blkW mem pc n).length = n := by simp [blkW]
theorem blkW_at (mem : List Int) (pc : Nat) {n j : Nat} (h : j < n) : (blkW mem pc n).getD j 0 = (mem.getD (pc + j) 0).toNat := by
  unfold blkW
  rw [List.getD_eq_getElem?_getD, List.getElem?_map, List.getElem?_range h]; rfl
theorem grW_iff (mem : List Int) (pc k : Nat) (hm : ∀ i, 0 ≤ mem.getD i 0) : grB (blkW mem pc k) = true ↔ k < 8 ∧ (0 < k → plW (mem.getD (pc + (k - 1)) 0) = true) := by
  unfold grB plN
  rw [decide_eq_true_eq, blkW_len]
  by_cases h : 0 < k
  · rw [blkW_at mem pc (by omega), Int.toNat_of_nonneg (hm _)]
    by_cases hp : plW (mem.getD (pc + (k - 1)) 0) = true
    · rw [if_neg (fun h => by rw [hp] at h; exact absurd h.2 (by decide))]
      exact ⟨fun q => ⟨q.1, fun _ => hp⟩, fun q => ⟨q.1, rfl⟩⟩
    · rw [if_pos ⟨h, by simpa using hp⟩]
      exact ⟨fun q => by omega, fun q => absurd (q.2 h) hp⟩
  · rw [if_neg (fun q => h q.1)]
    exact ⟨fun q => ⟨q.1, fun q => absurd q h⟩, fun q => ⟨q.1, rfl⟩⟩
theorem blkN_end (mem : List Int) (pc k : Nat) (h1 : 1 ≤ k) (h8 : k ≤ 8) (hp : ∀ j, j + 1 < k → plW (mem.getD (pc + j) 0) = true) (hk : pc + k ≤ 128) (he : pc + k = 128 ∨ k = 8 ∨ ¬ plW (mem.getD (pc + (k - 1)) 0) = true) : blkN mem 8 pc = k := by
  rw [blkN_go mem pc (9 - k) (k - 1) (fun j hj => hp j (by omega)) (by omega) (by omega)]
  obtain ⟨f, hf⟩ : ∃ f, 9 - k = f + 1 := ⟨8 - k, by omega⟩
  rw [hf, blkN, if_pos (by omega)]
  by_cases hpl : plW (mem.getD (pc + (k - 1)) 0) = true
  · rw [if_pos hpl]
    have : blkN mem f (pc + (k - 1) + 1) = 0 := by
      rcases he with h | h | h
      · cases f with
        | zero => rfl
        | succ f => rw [blkN, if_neg (by omega)]
      · obtain rfl : f = 0 := by omega
        rfl
      · exact absurd hpl h
    rw [this]; omega
  · rw [if_neg hpl]; omega
theorem blkW_bd (mem : List Int) (pc k : Nat) (hm : ∀ i, 0 ≤ mem.getD i 0 ∧ mem.getD i 0 < 4294967296) : ∀ v ∈ blkW mem pc k, v < 4294967296 := fun v hv => by
  obtain ⟨j, _, rfl⟩ := List.mem_map.1 hv
  have := hm (pc + j)
  omega

set_option maxRecDepth 100000 in
set_option maxHeartbeats 2000000 in
theorem blockAt_any (mem : List Int) (pc : Nat) (w : World) (ht : Tab w) (hl : mem.length = 128) (hm : ∀ i, 0 ≤ mem.getD i 0 ∧ mem.getD i 0 < 4294967296) (hpc : pc < 128) :
    Calls Tryz.prog 139 #[.agg (S mem), .int .i64 (pc : Int)] w fun e' w' => e' = .returned (.agg (S (wdZ (blkW mem pc (blkN mem 8 pc))))) ∧ Below w.heap.size w w' := by
  have z9 := zero9
  have HTb := hide ht
  have hpos := ht.pos
  clear ht
  have hr0 : RowI (((w.alloc (.cells (S mem) 26)).alloc (.cells (S (wdZ [])) 187)).alloc (.cells (S (wdZ [])) 187)) w.heap.size 26 mem := by
    unfold RowI
    rw [Below.heap_alloc _ _ _ (by rw [size_alloc1, size_alloc1]; omega), Below.heap_alloc _ _ _ (by rw [size_alloc1]; omega), _root_.Go.heap_alloc_new]
  have hr1 : RowI (((w.alloc (.cells (S mem) 26)).alloc (.cells (S (wdZ [])) 187)).alloc (.cells (S (wdZ [])) 187)) (w.heap.size + 1) 187 (wdZ []) := by
    unfold RowI
    rw [Below.heap_alloc _ _ _ (by rw [size_alloc1, size_alloc1]; omega)]
    have := _root_.Go.heap_alloc_new (w.alloc (.cells (S mem) 26)) (.cells (S (wdZ [])) 187)
    rw [size_alloc1] at this
    exact this
  have hr2 : RowI (((w.alloc (.cells (S mem) 26)).alloc (.cells (S (wdZ [])) 187)).alloc (.cells (S (wdZ [])) 187)) (w.heap.size + 1 + 1) 187 (wdZ []) := by
    unfold RowI
    have := _root_.Go.heap_alloc_new ((w.alloc (.cells (S mem) 26)).alloc (.cells (S (wdZ [])) 187)) (.cells (S (wdZ [])) 187)
    rw [size_alloc1, size_alloc1] at this
    exact this
  have hb0 : Below w.heap.size w (((w.alloc (.cells (S mem) 26)).alloc (.cells (S (wdZ [])) 187)).alloc (.cells (S (wdZ [])) 187)) := (((Below.refl _ _).alloc (Nat.le_refl _) _).alloc (by rw [size_alloc1]; omega) _).alloc (by rw [size_alloc1, size_alloc1]; omega) _
  have HR0 := hide hr0; have HR1 := hide hr1; have HR2 := hide hr2; have HB0 := hide hb0
  have HM := hide hm
  clear hr0 hr1 hr2 hb0 hm
  have hpc' : (pc : Int) < 128 := by omega
  go_enter Tryz.func139, Tryz.ntmps139
  go_wp2_with fail
  go_loopw [6] (fun i wr => ∃ k p : Nat, p = pc + k ∧ i = .int .i64 p ∧ p ≤ 128 ∧ Hid (k ≤ 8 ∧ RowI wr w.heap.size 26 mem ∧ RowI wr (w.heap.size + 1) 187 (wdZ []) ∧ RowI wr (w.heap.size + 1 + 1) 187 (wdZ (blkW mem pc k)) ∧ Below w.heap.size w wr ∧ ∀ q, q + 1 < k → plW (mem.getD (pc + q) 0) = true)) (fun i _ => 128 - (intOf i).toNat)
  case atStart => exact ⟨0, pc, rfl, rfl, by omega, Nat.zero_le _, HR0.out, HR1.out, HR2.out, HB0.out, fun q hq => by omega⟩
  case round =>
    obtain ⟨k, p, hp, rfl, hp8, HR⟩ := hrel
    obtain ⟨k8, rm, rr, rw', hbl, hpl⟩ := HR.out
    have hlen := wdZ_len (ws := blkW mem pc k) (by rw [blkW_len]; exact k8)
    have rI0 := rr.isRow 9 rfl
    have rI := rw'.isRow 9 hlen
    have rD := rw'.rowD
    have hwz : w.heap.size + 1 + 1 < wr.heap.size := rw'.lt
    have HRr := hide rr; have HRw := hide rw'; have HBl := hide hbl; have HLen := hide hlen; have HRm := hide rm
    have HP := hide hp
    have hgr := grW_iff mem pc k (fun i => (HM.out i).1)
    by_cases hlt : p < 128
    · have hlt' : (p : Int) < 128 := by omega
      have HMg := hide (mayGrow_any (blkW mem pc k) wr (HTb.out.below hpos hbl) (by rw [blkW_len]; exact k8) (blkW_bd mem pc k HM.out))
      rw [S9 hlen] at HMg
      have x0 := rw'.cell 0 (by omega); have x1 := rw'.cell 1 (by omega); have x2 := rw'.cell 2 (by omega); have x3 := rw'.cell 3 (by omega); have x4 := rw'.cell 4 (by omega); have x5 := rw'.cell 5 (by omega); have x6 := rw'.cell 6 (by omega); have x7 := rw'.cell 7 (by omega); have x8 := rw'.cell 8 (by omega)
      cases hq : grB (blkW mem pc k)
      · rw [hq] at HMg hgr
        have hk1 : 1 ≤ k := by
          rcases Nat.eq_zero_or_pos k with h0 | h0
          · have := hgr.2 ⟨by omega, fun q => by omega⟩
            exact absurd this (by decide)
          · exact h0
        have HE := hide (blkN_end mem pc k hk1 k8 hpl (by omega) (by
          by_cases h8 : k < 8
          · exact .inr (.inr fun hh => absurd (hgr.2 ⟨h8, fun _ => hh⟩) (by decide))
          · exact .inr (.inl (by omega))))
        clear hq hgr hpl hbl k8 rr rw' rm hp hk1 hlen
        go_wp2_with fail
        refine (unhide HMg).mono ?_
        rintro e w1 ⟨rfl, hb1⟩
        clear x0 x1 x2 x3 x4 x5 x6 x7 x8
        have HB1 : Hid (Below w.heap.size w w1) := HBl.out.trans (hb1.mono (by omega))
        have HR1' : Hid (RowI w1 (w.heap.size + 1) 187 (wdZ [])) := HRr.out.keep (hb1.block _ (by omega))
        have HRw1 : Hid (RowI w1 (w.heap.size + 1 + 1) 187 (wdZ (blkW mem pc k))) := HRw.out.keep (hb1.block _ (by omega))
        clear hb1
        go_wp2_with (first | (refine wpList_loadR rfl Tryz.underlying187 size9 rfl _ rfl (w.heap.size + 1 + 1) rfl (HRw1.out.isRow 9 HLen.out) _ HRw1.out.rowD ?_) | (refine wpList_storeR size9 rfl _ _ rfl (w.heap.size + 1) rfl (wdZ (blkW mem pc k)) rfl HLen.out (HR1'.out.isRow 9 rfl) _ rfl ?_))
        rw [HE.out]
        exact bodyPost_ret (v := .agg (S (wdZ (blkW mem pc k)))) (results_cell_row Tryz.results139 _ _ (w.heap.size + 1) 187 (S (wdZ (blkW mem pc k))) (0, 0) _ rfl (HR1'.out.setRow (wdZ (blkW mem pc k))) Tryz.underlying187 rfl (by rw [size9, S_size, HLen.out])) rfl ⟨rfl, below_setRow HB1.out (by omega) _⟩
      · rw [hq] at HMg hgr
        obtain ⟨h8, hpk⟩ := hgr.1 rfl
        have hl8 : (blkW mem pc k).length < 8 := by rw [blkW_len]; exact h8
        have hc := HM.out p
        have HX : Hid (blkW mem pc (k + 1) = blkW mem pc k ++ [(mem.getD p 0).toNat]) := by unfold Hid; rw [blkW_succ, HP.out]
        have hx0 : mem.getD p 0 = (((mem.getD p 0).toNat : Nat) : Int) := (Int.toNat_of_nonneg hc.1).symm
        have cm := rm.cell p (by omega)
        unfold gz at cm
        rw [hx0] at cm
        generalize (mem.getD p 0).toNat = x at *
        have HFin : Hid (∀ w1 w2, Below wr.heap.size wr w1 → RowI w2 (w.heap.size + 1 + 1) 187 (wdZ (blkW mem pc k ++ [x])) → (∀ B, B ≤ w.heap.size + 1 + 1 → Below B w1 w2) → (∀ g, g ≠ w.heap.size + 1 + 1 → w2.heap[g]? = w1.heap[g]?) → (k + 1 ≤ 8 ∧ RowI w2 w.heap.size 26 mem ∧ RowI w2 (w.heap.size + 1) 187 (wdZ []) ∧ RowI w2 (w.heap.size + 1 + 1) 187 (wdZ (blkW mem pc (k + 1))) ∧ Below w.heap.size w w2 ∧ ∀ q, q + 1 < k + 1 → plW (mem.getD (pc + q) 0) = true)) := by
          intro w1 w2 b1 b2 b3 b4
          refine ⟨by omega, rm.keep ((b4 _ (by omega)).trans (b1.block _ (by omega))), rr.keep ((b4 _ (by omega)).trans (b1.block _ (by omega))), by rw [HX.out]; exact b2, (hbl.trans (b1.mono (by omega))).trans (b3 _ (by omega)), fun q hq' => ?_⟩
          by_cases hqk : q + 1 < k
          · exact hpl q hqk
          · have : q = k - 1 := by omega
            rw [this]
            exact hpk (by omega)
        clear hq hgr hpl hbl k8 rr rw' rm hp hlen hpk hx0 hc
        go_wp2_with fail
        refine (unhide HMg).mono ?_
        rintro e w1 ⟨rfl, hb1⟩
        clear x0 x1 x2 x3 x4 x5 x6 x7 x8
        have HB1 := hide hb1
        have HAdd := hide (addW_any (w.heap.size + 1 + 1) (blkW mem pc k) x w1 (HRw.out.keep (hb1.block _ (by omega))) hl8)
        have cm1 := below_cell' hb1 w.heap.size p (by omega)
        rw [cm] at cm1
        clear hb1 cm
        go_wp2_with fail
        refine (unhide HAdd).mono ?_
        rintro e w2 ⟨rfl, b2, b3, b4⟩
        have HE := hide (HFin.out w1 w2 HB1.out b2 b3 b4)
        clear b2 b3 b4
        go_wp2_with fail
        refine ⟨⟨k + 1, p + 1, ?_, by go_num, by omega, HE.out⟩, by simp [intOf]; omega⟩
        have := HP.out; omega
    · have hlt' : ¬ (p : Int) < 128 := by omega
      have HE := hide (blkN_end mem pc k (by omega) k8 hpl (by omega) (.inl (by omega)))
      clear hgr hpl hbl k8 rr rw' rm hp hlen
      go_wp2_with (first | (refine wpList_loadR rfl Tryz.underlying187 size9 rfl _ rfl (w.heap.size + 1 + 1) rfl rI _ rD ?_) | (refine wpList_storeR size9 rfl _ _ rfl (w.heap.size + 1) rfl (wdZ (blkW mem pc k)) rfl HLen.out rI0 _ rfl ?_))
      rw [HE.out]
      exact bodyPost_ret (v := .agg (S (wdZ (blkW mem pc k)))) (results_cell_row Tryz.results139 _ _ (w.heap.size + 1) 187 (S (wdZ (blkW mem pc k))) (0, 0) _ rfl (HRr.out.setRow (wdZ (blkW mem pc k))) Tryz.underlying187 rfl (by rw [size9, S_size, HLen.out])) rfl ⟨rfl, below_setRow HBl.out (by omega) _⟩
end Go.Proofs.YtmmflekajbeamaaGreatDoor
