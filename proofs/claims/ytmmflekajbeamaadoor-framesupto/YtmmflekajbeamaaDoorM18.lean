/-
  Translates: whole numbers laid behind bytes (number.Append); bytes as a string.
  Frames: a frame's text (cribref.Seal, frame.Seal).
  Sound, as plain mathematics: expressions that are the same have the same value, whatever the registers and the memory are; so a plan whose registers come to the same expressions as a block's does what the block's words do. A block's own plan comes to the same.
-/
import Derived.Test.YtmmflekajbeamaaDoorM17
import Derived.Test.YtmmflekajbeamaaDoorM13
import Derived.Test.YtmmflekajbeamaaDoorM02
import Derived.Lib.BufferRead
import Derived.Test.YtmmflekajbeamaaDoorM12
import Derived.Lib.AppendStr
namespace Go.Proofs.YtmmflekajbeamaaDoor
open Go.RowKit

def u8C (l : List UInt8) : List Value := l.map fun b => .int .u8 (b.toNat : Int)
theorem u8C_app (l m : List UInt8) : u8C (l ++ m) = u8C l ++ u8C m := by simp [u8C]
theorem infoU8 : ∃ i, Tryd.prog.info? 5 = some i ∧ i.zero = some (.int .u8 0) ∧ i.size = 1 ∧ i.bytes = 1 := by
  have h : (Tryd.prog.info? 5).map (fun i => (i.zero, i.size, i.bytes)) = some (some (.int .u8 0), 1, 1) := by kernel_rfl
  cases hq : Tryd.prog.info? 5 with
  | none => rw [hq] at h; cases h
  | some i =>
    rw [hq] at h
    simp only [Option.map_some, Option.some.injEq, Prod.mk.injEq] at h
    exact ⟨i, rfl, h.1, h.2.1, h.2.2⟩
theorem byte_of (v m : Nat) : ((UInt8.ofNat (v / 256 ^ m % 256)).toNat : Int) = ((v / 256 ^ m : Nat) : Int) % 256 := by
  rw [UInt8.toNat_ofNat', Nat.mod_mod]; simp
theorem pow_256 (m : Nat) : 256 ^ m = 2 ^ (8 * m) := by rw [Nat.pow_mul]
/-- A slice of bytes as a string. -/
theorem u8_str {w : World} {B : Nat} {v : Value} {l : List UInt8} (h : w.ownsRow B 5 1 v l.length (u8C l)) : (convert 76 9 v).run Tryd.prog w = .ok (.string (bya l)) w := by
  by_cases h0 : l.length = 0
  · obtain rfl : l = [] := List.length_eq_zero_iff.1 h0
    rcases h.2 with ⟨rfl, _⟩ | ⟨g, cap, cur, rfl, _⟩
    · exact Lib.run_convert_nil_bytes _ _ _ 5 _ Tryd.underlying76 Tryd.underlying5 Tryd.underlying9
    · exact run_convert_bytes_back _ _ _ 5 ⟨g, 0, none⟩ cap [] Tryd.underlying76 Tryd.underlying5 Tryd.underlying9 (fun j hj => by cases hj)
  · obtain ⟨g, cap, rfl, _, hgl⟩ := h.form (by omega)
    refine run_convert_bytes_back _ _ _ 5 ⟨g, 0, none⟩ cap l Tryd.underlying76 Tryd.underlying5 Tryd.underlying9 (fun j hj => ?_)
    have e : (⟨g, 0, none⟩ : Addr).add j = ⟨g, j, none⟩ := by simp [Addr.add]; omega
    rw [e, h.cellAt _ (by omega)]
    simp [u8C, List.getElem?_eq_getElem hj]

set_option maxRecDepth 100000 in
set_option maxHeartbeats 2000000 in
theorem numAppend_any (B : Nat) (bv : Value) (xs : List UInt8) (v k : Nat) (w : World) (hB : B ≤ w.heap.size) (hb : w.ownsRow B 5 1 bv xs.length (u8C xs)) (hx : xs.length ≤ 100000) (hk8 : k ≤ 7) :
    Calls Tryd.prog 109 #[bv, .int .i64 (v : Int), .int .i64 (k : Int)] w fun e' w' => ∃ v', e' = .returned v' ∧ w'.ownsRow B 5 1 v' (xs ++ numB k v).length (u8C (xs ++ numB k v)) ∧ Below B w w' ∧ ∀ g, g < w.heap.size → bv.ownBlock ≠ some g → w'.heap[g]? = w.heap[g]? := by
  obtain ⟨inf, hinf, hz, hsz1, hby⟩ := infoU8
  have HInf := hide hinf; have HZ := hide hz; have HSz := hide hsz1; have HBy := hide hby
  clear hinf hz hsz1 hby
  obtain ⟨ba, bc, rfl⟩ := owns_len hb
  have HO := hide hb
  clear hb
  go_enter Tryd.func109, Tryd.ntmps109
  go_wp2_with fail
  go_loopw [0, 7] (fun x i wr => ∃ (m : Nat) (D : List UInt8), m ≤ k ∧ i = .int .i64 ((m : Int) - 1) ∧ Hid (D ++ numB m v = numB k v) ∧ Hid (wr.ownsRow B 5 1 x (xs ++ D).length (u8C (xs ++ D))) ∧ Hid (Below B w wr) ∧ Hid (∀ g, g < w.heap.size → (Value.slice ba xs.length bc).ownBlock ≠ some g → wr.heap[g]? = w.heap[g]? ∧ x.ownBlock ≠ some g)) (fun _ i _ => ((intOf i) + 1).toNat)
  case atStart => exact ⟨k, [], Nat.le_refl _, rfl, rfl, by rw [List.append_nil]; exact HO.out, Below.refl _ _, fun g _ h => ⟨rfl, h⟩⟩
  case round =>
    obtain ⟨m, D, hm, rfl, HD, HOw, HBl, HKp⟩ := hrel
    obtain ⟨va, vc, hv'⟩ := owns_len HOw.out
    subst hv'
    have hwz := HBl.out.size
    have hDl : D.length + m = k := by have := congrArg List.length HD.out; rw [List.length_append, numB_len, numB_len] at this; exact this
    cases m with
    | zero =>
      have HE : Hid (xs ++ D = xs ++ numB k v) := by unfold Hid; rw [← HD.out]; simp [numB]
      go_wp2_with fail
      go_ret
      refine ⟨_, rfl, ?_, HBl.out, fun g hg hn => (HKp.out g hg hn).1⟩
      rw [← HE.out]
      exact HOw.out
    | succ m =>
      have hi : ((m + 1 : Nat) : Int) - 1 = (m : Int) := by omega
      have HN : Hid ((D ++ [UInt8.ofNat (v / 256 ^ m % 256)]) ++ numB m v = numB k v) := by unfold Hid; rw [← HD.out]; simp [numB]
      have hm7 : (m : Int) < 7 := by omega
      have hlen : (xs ++ D).length + 1 = (xs ++ (D ++ [UInt8.ofNat (v / 256 ^ m % 256)])).length := by simp; omega
      have HL := hide hlen
      have hxl : (xs ++ D).length ≤ 200000 := by rw [List.length_append]; omega
      have HCs : Hid (u8C (xs ++ (D ++ [UInt8.ofNat (v / 256 ^ m % 256)])) = u8C (xs ++ D) ++ [.int .u8 ((v : Int) / 2 ^ (8 * m) % 256)]) := by
        unfold Hid
        rw [← List.append_assoc, u8C_app]
        show _ ++ [Value.int .u8 ((UInt8.ofNat (v / 256 ^ m % 256)).toNat : Int)] = _
        rw [byte_of, pow_256]; simp
      rw [hi]
      clear hi hlen
      generalize (xs ++ D).length = n at *
      go_wp2_with (at_builtin; refine wpList_append_lies _ rfl _ _ 76 rfl B 5 inf _ 1 1 Tryd.underlying76 HInf.out HZ.out HSz.out HBy.out rfl (by decide) (.slice va n vc) n (u8C (xs ++ D)) rfl (HOw.out.alloc _) ⟨wr.heap.size, 0, none⟩ 1 1 [.int .u8 ((v : Int) / 2 ^ (8 * m) % 256)] rfl rfl (World.news_of_block (_root_.Go.heap_alloc_new wr _)) (fun u hu => by simp at hu; subst hu; rfl) (by decide) (by unfold maxLen; omega) (by omega) (by rw [size_alloc1]; omega) (wr.heap.size + 1) (by rw [size_alloc1]) ?_; intro g2' cap2 w3 hown2 hgr2 hat2 hlt2; have HO3 := hide hown2; have HGr := hide hgr2; have HAt := hide hat2; clear hown2 hgr2 hat2)
      refine ⟨⟨m, D ++ [UInt8.ofNat (v / 256 ^ m % 256)], by omega, by go_num, HN.out, ?_, ?_, ?_⟩, by simp [intOf]⟩
      · unfold Hid
        rw [← HL.out, HCs.out]
        exact HO3.out
      · exact (HBl.out.alloc (by omega) _).grown HGr.out (by rw [size_alloc1]; omega) (fun q hq => (row_lt HOw.out q hq).1)
      · intro g hg hn
        obtain ⟨k1, k2⟩ := HKp.out g hg hn
        refine ⟨((HGr.out.block _ (by rw [size_alloc1]; omega) (fun e => k2 e.symm)).trans (Below.heap_alloc wr _ _ (by omega))).trans k1, ?_⟩
        rcases HAt.out with h | h
        · intro e
          apply k2
          rw [h]
          exact e
        · intro e
          have : g2' = g := by simpa [Value.ownBlock] using e
          omega
end Go.Proofs.YtmmflekajbeamaaDoor

namespace Go.Proofs.YtmmflekajbeamaaDoor
open Go.RowKit

def sealOK (kind : Int) (p : ByteArray) : Prop := 1 ≤ kind ∧ kind ≤ 3 ∧ p.size ≤ 200
/-- What a sealing leaves. -/
def SealPost (kind : Int) (p : ByteArray) (w : World) (e' : Ending) (w' : World) : Prop :=
  Below w.heap.size w w' ∧ ((sealOK kind p ∧ e' = .returned (.tuple #[.string (bya (frT kind.toNat (lst p))), .int .i64 0])) ∨ (¬ sealOK kind p ∧ e' = .returned (.tuple #[.string (bya []), .int .i64 1])))
theorem SealPost.form {kind : Int} {p : ByteArray} {w w' : World} {e : Ending} (h : SealPost kind p w e w') : ∃ D n, e = .returned (.tuple #[.string D, .int .i64 n]) := by
  obtain ⟨_, ⟨_, rfl⟩ | ⟨_, rfl⟩⟩ := h
  · exact ⟨_, _, rfl⟩
  · exact ⟨_, _, rfl⟩
theorem SealPost.one {kind : Int} {p : ByteArray} {w1 w2 w1' w2' : World} {e1 e2 : Ending} (h1 : SealPost kind p w1 e1 w1') (h2 : SealPost kind p w2 e2 w2') : e1 = e2 := by
  obtain ⟨_, ⟨a, rfl⟩ | ⟨a, rfl⟩⟩ := h1 <;> obtain ⟨_, ⟨c, rfl⟩ | ⟨c, rfl⟩⟩ := h2
  all_goals first | rfl | exact absurd a c | exact absurd c a

set_option maxRecDepth 100000 in
set_option maxHeartbeats 2000000 in
theorem refSeal_any (kind : Int) (p : ByteArray) (w : World) :
    Calls Tryd.prog 65 #[.int .i64 kind, .string p] w (SealPost kind p w) := by
  by_cases h1 : kind < 1
  · have HN : Hid (¬ sealOK kind p) := fun h => by have := h.1; omega
    go_enter Tryd.func65, Tryd.ntmps65
    go_wp2_with fail
    go_ret2
    exact ⟨Below.refl _ _, .inr ⟨HN.out, rfl⟩⟩
  by_cases h3 : 3 < kind
  · have HN : Hid (¬ sealOK kind p) := fun h => by have := h.2.1; omega
    go_enter Tryd.func65, Tryd.ntmps65
    go_wp2_with fail
    go_ret2
    exact ⟨Below.refl _ _, .inr ⟨HN.out, rfl⟩⟩
  by_cases h2 : 200 < p.size
  · have HN : Hid (¬ sealOK kind p) := fun h => by have := h.2.2; omega
    have h2' : (200 : Int) < (p.size : Int) := by omega
    go_enter Tryd.func65, Tryd.ntmps65
    go_wp2_with fail
    go_ret2
    exact ⟨Below.refl _ _, .inr ⟨HN.out, rfl⟩⟩
  have HY : Hid (sealOK kind p) := ⟨by omega, by omega, by omega⟩
  have h2' : ¬ (200 : Int) < (p.size : Int) := by omega
  obtain ⟨K, rfl⟩ := Int.eq_ofNat_of_zero_le (show 0 ≤ kind by omega)
  have hK : K < 256 := by omega
  have hl := lst_len p
  have HH : Hid ((⟨#[99]⟩ : ByteArray) ++ bya (numB 1 K) ++ bya (numB 2 p.size) ++ p = bya (frH K (lst p))) := by
    have e : ∀ D : ByteArray, D ++ p = D ++ bya (lst p) := fun D => by rw [bya_lst]
    unfold Hid frH
    rw [hl, e, show (⟨#[99]⟩ : ByteArray) = bya [99] from rfl]
    simp only [bya_app]
    simp
  have HF : Hid (bya (frH K (lst p)) ++ bya (numB 4 (crc (frH K (lst p)))) = bya (frT K (lst p))) := by unfold Hid frT; rw [bya_app]
  have hhs : (bya (frH K (lst p))).size ≤ 204 := by rw [bya_size, frH_len, hl]; omega
  have HS := hide (fun w' => refSum_any (bya (frH K (lst p))) w' (by unfold maxLen; omega))
  rw [lst_bya] at HS
  have hcl := crc_lt (frH K (lst p))
  have N1 := hide (fun w' => number_ref K 1 w' (by decide) (by omega))
  have N2 := hide (fun w' => number_ref p.size 2 w' (by decide) (by omega))
  have N4 := hide (fun w' => number_ref (crc (frH K (lst p))) 4 w' (by decide) (by omega))
  have z1 : (bya (numB 1 K)).size = 1 := by rw [bya_size, numB_len]
  have z2 : (bya (numB 2 p.size)).size = 2 := by rw [bya_size, numB_len]
  have z4 : (bya (numB 4 (crc (frH K (lst p))))).size = 4 := by rw [bya_size, numB_len]
  generalize bya (numB 4 (crc (frH K (lst p)))) = D4 at *
  generalize crc (frH K (lst p)) = C at *
  generalize bya (frH K (lst p)) = HD at *
  generalize bya (numB 1 K) = D1 at *
  generalize bya (numB 2 p.size) = D2 at *
  have c3 : ∀ w', (Op.stringOp .add ((⟨#[99]⟩ : ByteArray) ++ D1 ++ D2) p).run Tryd.prog w' = .ok (.string HD) w' := fun w' => by
    rw [← HH.out]
    exact run_string_add_sum w' _ _ (by simp only [ByteArray.size_append]; rw [show (⟨#[99]⟩ : ByteArray).size = 1 from rfl]; omega)
  clear hl
  go_enter Tryd.func65, Tryd.ntmps65
  go_wp2_with fail
  refine (unhide N1 _).mono ?_
  rintro e w1 ⟨rfl, hb1⟩
  have HB1 := hide hb1
  have hw1 := hb1.size
  clear hb1 N1
  go_wp2_with fail
  refine (unhide N2 _).mono ?_
  rintro e w2 ⟨rfl, hb2⟩
  have HB2 : Hid (Below w.heap.size w w2) := HB1.out.trans (hb2.mono (by omega))
  have hw2 := hb2.size
  clear hb2 N2
  go_wp2_with fail
  refine (unhide HS _).mono ?_
  rintro e w' ⟨rfl, hw⟩
  obtain rfl := hw.symm
  clear HS
  go_wp2_with fail
  refine (unhide N4 _).mono ?_
  rintro e w3 ⟨rfl, hb3⟩
  have HB3 : Hid (Below w.heap.size w w3) := HB2.out.trans (hb3.mono (by omega))
  clear hb3 N4
  go_wp2_with fail
  go_ret2
  refine ⟨HB3.out, .inl ⟨HY.out, ?_⟩⟩
  rw [Int.toNat_natCast, ← HF.out]
  rfl

theorem strCells_u8 (p : ByteArray) : Go.Lib.strCells p = u8C (lst p) := rfl
theorem build99 (w : World) : (Instr.buildSlice 76 1 #[(0, .int .u8 99)]).run Tryd.prog w = .ok (.slice (some ⟨w.heap.size, 0, none⟩) 1 1) (w.alloc (.cells #[.int .u8 99] 5)) := by kernel_rfl

set_option maxRecDepth 100000 in
set_option maxHeartbeats 2000000 in
theorem frSeal_any (kind : Int) (p : ByteArray) (w : World) :
    Calls Tryd.prog 69 #[.int .i64 kind, .string p] w (SealPost kind p w) := by
  by_cases h1 : kind < 1
  · have HN : Hid (¬ sealOK kind p) := fun h => by have := h.1; omega
    go_enter Tryd.func69, Tryd.ntmps69
    go_wp2_with fail
    go_ret2
    exact ⟨Below.refl _ _, .inr ⟨HN.out, rfl⟩⟩
  by_cases h3 : 3 < kind
  · have HN : Hid (¬ sealOK kind p) := fun h => by have := h.2.1; omega
    go_enter Tryd.func69, Tryd.ntmps69
    go_wp2_with fail
    go_ret2
    exact ⟨Below.refl _ _, .inr ⟨HN.out, rfl⟩⟩
  by_cases h2 : 200 < p.size
  · have HN : Hid (¬ sealOK kind p) := fun h => by have := h.2.2; omega
    have h2' : (200 : Int) < (p.size : Int) := by omega
    go_enter Tryd.func69, Tryd.ntmps69
    go_wp2_with fail
    go_ret2
    exact ⟨Below.refl _ _, .inr ⟨HN.out, rfl⟩⟩
  have HY : Hid (sealOK kind p) := ⟨by omega, by omega, by omega⟩
  have h2' : ¬ (200 : Int) < (p.size : Int) := by omega
  obtain ⟨K, rfl⟩ := Int.eq_ofNat_of_zero_le (show 0 ≤ kind by omega)
  have hl := lst_len p
  obtain ⟨inf, hinf, hz, hsz1, hby⟩ := infoU8
  have HInf := hide hinf; have HZ := hide hz; have HSz := hide hsz1; have HBy := hide hby
  clear hinf hz hsz1 hby
  have hhs : (bya (frH K (lst p))).size ≤ 204 := by rw [bya_size, frH_len, hl]; omega
  have HS := hide (fun w' => frSum_any (bya (frH K (lst p))) w' (by unfold maxLen; omega))
  rw [lst_bya] at HS
  have o0 : (w.alloc (.cells #[.int .u8 99] 5)).ownsRow w.heap.size 5 1 (.slice (some ⟨w.heap.size, 0, none⟩) 1 1) ([99] : List UInt8).length (u8C [99]) := by
    refine ⟨rfl, .inr ⟨w.heap.size, 1, _, rfl, Nat.le_refl _, _root_.Go.heap_alloc_new w _, ?_, ?_, ?_, ?_⟩⟩
    all_goals first | decide | rfl | (unfold maxLen; decide) | simp [u8C]
  have HA1 := hide (numAppend_any w.heap.size _ [99] K 1 _ (by rw [size_alloc1]; omega) o0 (by decide) (by decide))
  have HA2 := hide (fun w' v (hB : w.heap.size ≤ w'.heap.size) (h : w'.ownsRow w.heap.size 5 1 v ([99] ++ numB 1 K).length (u8C ([99] ++ numB 1 K))) => numAppend_any w.heap.size v ([99] ++ numB 1 K) p.size 2 w' hB h (by simp [numB_len]) (by decide))
  have bs := build99 w
  clear o0
  go_enter Tryd.func69, Tryd.ntmps69
  go_wp2_with fail
  refine (unhide HA1).mono ?_
  rintro e w1 ⟨v1, rfl, o1, hb1, _⟩
  have HB1 : Hid (Below w.heap.size w w1) := ((Below.refl _ _).alloc (Nat.le_refl _) _).trans hb1
  have hw1 := HB1.out.size
  have HA2' := hide (HA2.out w1 v1 hw1 o1)
  clear HA1 HA2 o1 hb1 bs
  go_wp2_with fail
  refine (unhide HA2').mono ?_
  rintro e w2 ⟨v2, rfl, o2, hb2, _⟩
  have HB2 : Hid (Below w.heap.size w w2) := HB1.out.trans hb2
  have hw2 := HB2.out.size
  have HO2 := hide o2
  have hn2 : ([99] ++ numB 1 K ++ numB 2 p.size).length = 4 := by simp [numB_len]
  have HF3 : Hid (∀ (W : World) (v : Value), W.ownsRow w.heap.size 5 1 v (([99] ++ numB 1 K ++ numB 2 p.size).length + p.size) (u8C ([99] ++ numB 1 K ++ numB 2 p.size) ++ Go.Lib.strCells p) → W.ownsRow w.heap.size 5 1 v (frH K (lst p)).length (u8C (frH K (lst p)))) := fun W v h => by
    have e : u8C (frH K (lst p)) = u8C ([99] ++ numB 1 K ++ numB 2 p.size) ++ Go.Lib.strCells p := by
      rw [strCells_u8, ← u8C_app]
      unfold frH
      rw [hl]
      simp
    have e2 : (frH K (lst p)).length = ([99] ++ numB 1 K ++ numB 2 p.size).length + p.size := by rw [hn2, frH_len, hl]; omega
    rw [e, e2]
    exact h
  have HA4 := hide (fun w' v (hB : w.heap.size ≤ w'.heap.size) (h : w'.ownsRow w.heap.size 5 1 v (frH K (lst p)).length (u8C (frH K (lst p)))) => numAppend_any w.heap.size v (frH K (lst p)) (crc (frH K (lst p))) 4 w' hB h (by rw [frH_len, hl]; omega) (by decide))
  clear HA2' o2 hb2
  go_wp2_with (at_builtin; refine Go.Lib.wpList_append_own_string _ rfl _ _ 76 9 rfl w.heap.size 5 inf Tryd.underlying76 Tryd.underlying9 HInf.out HZ.out HSz.out HBy.out v2 _ _ rfl HO2.out p rfl (by rw [hn2]; unfold maxLen; omega) (by rw [hn2]; omega) hw2 ?_; intro v3 w3 o3 hg3 _; have o3' := HF3.out _ _ o3; have ck := u8_str o3'; have HO3 := hide o3'; have HG3 := hide hg3; clear o3 o3' hg3)
  refine (unhide HS _).mono ?_
  rintro e w' ⟨rfl, hw⟩
  obtain rfl := hw.symm
  have HB3 : Hid (Below w.heap.size w w3) := HB2.out.grown HG3.out hw2 (fun q hq => (row_lt HO2.out q hq).1)
  have HA4' := hide (HA4.out w3 v3 HB3.out.size HO3.out)
  clear HS HA4 ck
  go_wp2_with fail
  refine (unhide HA4').mono ?_
  rintro e w4 ⟨v4, rfl, o4, hb4, _⟩
  have ck := u8_str o4
  have HB4 : Hid (Below w.heap.size w w4) := HB3.out.trans hb4
  clear o4 hb4 HA4'
  go_wp2_with fail
  go_ret2
  refine ⟨HB4.out, .inl ⟨HY.out, ?_⟩⟩
  rw [Int.toNat_natCast]
  rfl
end Go.Proofs.YtmmflekajbeamaaDoor

namespace Go.Proofs.YtmmflekajbeamaaDoor

/-! ### values of a table's expressions -/
def evE (regs mem vs : List Int) (e : Ex) : Int :=
  if e.1 = 0 then regs.getD e.2.2.2 0 else if e.1 = 1 then (e.2.2.2 : Int) else if e.1 = 6 then mem.getD ((vs.getD e.2.1 0 + (e.2.2.2 : Int)) % 128).toNat 0 else wk e.1 (vs.getD e.2.1 0) (vs.getD e.2.2.1 0)
structure VI (regs mem : List Int) (T : List Ex) (vs : List Int) : Prop where
  len : vs.length = T.length
  at' : ∀ (i : Nat) (e : Ex), T[i]? = some e → vs[i]? = some (evE regs mem vs e)
theorem getD_app {α : Type} {l : List α} (x : List α) {i : Nat} (z : α) (h : i < l.length) : (l ++ x).getD i z = l.getD i z := by
  rw [List.getD_eq_getElem?_getD, List.getD_eq_getElem?_getD, List.getElem?_append_left h]
theorem evE_append {regs mem vs : List Int} {e : Ex} {n : Nat} (he : okE n e) (hn : n ≤ vs.length) (x : List Int) : evE regs mem (vs ++ x) e = evE regs mem vs e := by
  unfold evE
  unfold okE at he
  rcases he with ⟨k0, _⟩ | ⟨k0, _⟩ | ⟨k0, k0', a0, b0, v0⟩ | ⟨k0, a0, b0, v0⟩
  · rw [if_pos k0, if_pos k0]
  · rw [if_neg (by omega), if_pos k0, if_neg (by omega), if_pos k0]
  · rw [getD_app x 0 (by omega), getD_app x 0 (by omega)]
  · rw [getD_app x 0 (by omega), if_neg (by omega), if_neg (by omega), if_pos k0, if_neg (by omega), if_neg (by omega), if_pos k0]
theorem VI.add {regs mem : List Int} {T : List Ex} {ds : List (List UInt8)} {vs : List Int} (h : VI regs mem T vs) (hT : TI T ds) {e : Ex} (he : okE T.length e) : VI regs mem (T ++ [e]) (vs ++ [evE regs mem vs e]) := by
  refine ⟨by simp [h.len], fun i e' hi => ?_⟩
  by_cases hl : i < T.length
  · rw [List.getElem?_append_left hl] at hi
    rw [List.getElem?_append_left (by rw [h.len]; exact hl), h.at' i e' hi, evE_append (hT.ok i e' hi).1 (by rw [h.len]; omega)]
  · rw [List.getElem?_append_right (by omega)] at hi
    have h0 : i - T.length = 0 := by
      have := (List.getElem?_eq_some_iff.1 hi).1
      simp at this
      omega
    rw [h0] at hi
    simp at hi
    subst hi
    have hi' : i = T.length := by omega
    subst hi'
    rw [List.getElem?_append_right (by rw [h.len]; exact Nat.le_refl _), h.len, Nat.sub_self, evE_append he (by rw [h.len]; exact Nat.le_refl _)]
    rfl
/-- A table with its texts and its values. -/
structure Tb (regs mem : List Int) (T : List Ex) (ds : List (List UInt8)) (vs : List Int) : Prop where
  ti : TI T ds
  vi : VI regs mem T vs
/-- A number tells a text and a value. -/
def TV (T : List Ex) (ds : List (List UInt8)) (vs : List Int) (n : Nat) (x : List UInt8) (v : Int) : Prop := Tells T ds n x ∧ vs.getD n 0 = v
theorem TV.more {regs mem : List Int} {T : List Ex} {ds : List (List UInt8)} {vs : List Int} {T' : List Ex} {ds' : List (List UInt8)} {vs' : List Int} {n : Nat} {x : List UInt8} {v : Int} (hb : Tb regs mem T ds vs) (h : TV T ds vs n x v) (k : More T ds T' ds') (kv : vs <+: vs') : TV T' ds' vs' n x v := by
  refine ⟨h.1.more hb.ti.len k, ?_⟩
  obtain ⟨u, rfl⟩ := kv
  rw [getD_app u 0 (by rw [hb.vi.len]; exact h.1.1)]
  exact h.2
theorem Tb.hold {regs mem : List Int} {T : List Ex} {ds : List (List UInt8)} {vs : List Int} (h : Tb regs mem T ds vs) {e : Ex} (he : okE T.length e) : ∃ T' ds' vs' n, Tb regs mem T' ds' vs' ∧ More T ds T' ds' ∧ vs <+: vs' ∧ TV T' ds' vs' n (strE ds e) (evE regs mem vs e) := by
  by_cases hm : e ∈ T
  · obtain ⟨n, hn⟩ := List.getElem?_of_mem hm
    refine ⟨T, ds, vs, n, h, More.refl _ _, List.prefix_refl _, h.ti.told hn, ?_⟩
    rw [List.getD_eq_getElem?_getD, h.vi.at' n e hn]
    rfl
  · refine ⟨T ++ [e], ds ++ [strE ds e], vs ++ [evE regs mem vs e], T.length, ⟨h.ti.add he hm, h.vi.add h.ti he⟩, More.add _ _ _ _, List.prefix_append _ _, h.ti.told_new e, ?_⟩
    rw [List.getD_eq_getElem?_getD, ← h.vi.len, List.getElem?_append_right (Nat.le_refl _), Nat.sub_self]
    rfl
theorem Tb.con {regs mem : List Int} {T : List Ex} {ds : List (List UInt8)} {vs : List Int} (h : Tb regs mem T ds vs) {n : Nat} {x : List UInt8} {v : Int} (ht : TV T ds vs n x v) (hx : isCon x = true) : ∃ c, c < 4294967296 ∧ x = sCon c ∧ v = (c : Int) := by
  obtain ⟨e, hn⟩ : ∃ e, T[n]? = some e := ⟨_, List.getElem?_eq_getElem ht.1.1⟩
  obtain ⟨h1, h2⟩ := h.ti.con hn
  rw [ht.1.2] at h1 h2
  have h3 := h1.2 hx
  obtain ⟨h4, h5⟩ := h2 h3
  refine ⟨_, h5, h4, ?_⟩
  rw [← ht.2, List.getD_eq_getElem?_getD, h.vi.at' n e hn, Option.getD_some]
  unfold evE
  rw [if_neg (by omega), if_pos h3]
theorem Tb.put {regs mem : List Int} {T : List Ex} {ds : List (List UInt8)} {vs : List Int} (h : Tb regs mem T ds vs) {ns : List Nat} {l : List (List UInt8)} {z : List Int} (hs : ∀ i, i < 16 → TV T ds vs (ns.getD i 0) (l.getD i []) (z.getD i 0)) {p : PutN} (hp : okPut p) (hk : p.k < 4294967296) :
    ∃ T' ds' vs' n, Tb regs mem T' ds' vs' ∧ More T ds T' ds' ∧ vs <+: vs' ∧ TV T' ds' vs' n (vS l p) (vD z mem p) := by
  obtain ⟨d16, a16, b16, hc⟩ := hp
  have ha := hs p.a a16
  have hb := hs p.b b16
  unfold vS vD
  rcases hc with ⟨k1, _, _⟩ | ⟨k2, k5, _⟩ | ⟨k6, _, hk6⟩ | ⟨k7, _, _⟩
  · rw [if_pos k1, if_pos k1]
    exact h.hold (e := (1, 0, 0, p.k)) (.inr (.inl ⟨rfl, rfl, rfl, hk⟩))
  · rw [if_neg (by omega), if_neg (by omega), if_neg (by omega), if_neg (by omega), if_neg (by omega), if_neg (by omega)]
    unfold jnS
    split
    · rename_i hcc
      obtain ⟨c1, h1, e1, f1⟩ := h.con ha hcc.1
      obtain ⟨c2, h2, e2, f2⟩ := h.con hb hcc.2
      rw [e1, e2, f1, f2, valX_con _ h1, valX_con _ h2]
      have hw := wk_bd p.kind c1 c2 (by omega) (by omega) (by omega) (by omega)
      obtain ⟨T', ds', vs', n, g1, g2, g3, g4⟩ := h.hold (e := (1, 0, 0, (wk p.kind c1 c2).toNat)) (.inr (.inl ⟨rfl, rfl, rfl, by dsimp only; omega⟩))
      refine ⟨T', ds', vs', n, g1, g2, g3, ?_⟩
      have ev : evE regs mem vs (1, 0, 0, (wk p.kind c1 c2).toNat) = wk p.kind c1 c2 := by
        unfold evE
        rw [if_neg (by dsimp only; omega), if_pos rfl]
        dsimp only
        omega
      rw [ev] at g4
      exact g4
    · obtain ⟨T', ds', vs', n, g1, g2, g3, g4⟩ := h.hold (e := (p.kind, ns.getD p.a 0, ns.getD p.b 0, 0)) (.inr (.inr (.inl ⟨k2, k5, ha.1.1, hb.1.1, rfl⟩)))
      refine ⟨T', ds', vs', n, g1, g2, g3, ?_⟩
      have e1 : strE ds (p.kind, ns.getD p.a 0, ns.getD p.b 0, 0) = sOp p.kind (l.getD p.a []) (l.getD p.b []) := by
        unfold strE
        rw [if_neg (by dsimp only; omega), if_neg (by dsimp only; omega), if_neg (by dsimp only; omega)]
        dsimp only
        rw [ha.1.2, hb.1.2]
      have e2 : evE regs mem vs (p.kind, ns.getD p.a 0, ns.getD p.b 0, 0) = wk p.kind (z.getD p.a 0) (z.getD p.b 0) := by
        unfold evE
        rw [if_neg (by dsimp only; omega), if_neg (by dsimp only; omega), if_neg (by dsimp only; omega)]
        dsimp only
        rw [ha.2, hb.2]
      rw [e1, e2] at g4
      exact g4
  · rw [if_neg (by omega), if_pos k6, if_neg (by omega), if_pos k6]
    unfold ldS
    split
    · rename_i hcc
      obtain ⟨c1, h1, e1, f1⟩ := h.con ha hcc
      rw [e1, f1, valX_con _ h1]
      obtain ⟨T1, ds1, vs1, m, g1, g2, g3, g4⟩ := h.hold (e := (1, 0, 0, (c1 + p.k) % 128)) (.inr (.inl ⟨rfl, rfl, rfl, by dsimp only; omega⟩))
      obtain ⟨T', ds', vs', n, q1, q2, q3, q4⟩ := g1.hold (e := (6, m, 0, 0)) (.inr (.inr (.inr ⟨rfl, g4.1.1, rfl, by dsimp only; omega⟩)))
      refine ⟨T', ds', vs', n, q1, g2.trans q2, g3.trans q3, ?_⟩
      have e2 : strE ds1 (6, m, 0, 0) = sLd (sCon ((c1 + p.k) % 128)) 0 := by
        unfold strE
        rw [if_neg (by dsimp only; omega), if_neg (by dsimp only; omega), if_pos rfl]
        dsimp only
        rw [g4.1.2]
        rfl
      have e3 : evE regs mem vs1 (6, m, 0, 0) = mem.getD (((c1 : Int) + (p.k : Int)) % 128).toNat 0 := by
        unfold evE
        rw [if_neg (by dsimp only; omega), if_neg (by dsimp only; omega), if_pos rfl]
        dsimp only
        rw [g4.2]
        unfold evE
        rw [if_neg (by dsimp only; omega), if_pos rfl]
        dsimp only
        congr 1
        omega
      rw [e2, e3] at q4
      exact q4
    · obtain ⟨T', ds', vs', n, g1, g2, g3, g4⟩ := h.hold (e := (6, ns.getD p.a 0, 0, p.k)) (.inr (.inr (.inr ⟨rfl, ha.1.1, rfl, hk6⟩)))
      refine ⟨T', ds', vs', n, g1, g2, g3, ?_⟩
      have e1 : strE ds (6, ns.getD p.a 0, 0, p.k) = sLd (l.getD p.a []) p.k := by
        unfold strE
        rw [if_neg (by dsimp only; omega), if_neg (by dsimp only; omega), if_pos rfl]
        dsimp only
        rw [ha.1.2]
      have e2 : evE regs mem vs (6, ns.getD p.a 0, 0, p.k) = mem.getD ((z.getD p.a 0 + (p.k : Int)) % 128).toNat 0 := by
        unfold evE
        rw [if_neg (by dsimp only; omega), if_neg (by dsimp only; omega), if_pos rfl]
        dsimp only
        rw [ha.2]
      rw [e1, e2] at g4
      exact g4
  · rw [if_neg (by omega), if_neg (by omega), if_pos k7, if_neg (by omega), if_neg (by omega), if_pos k7]
    exact ⟨T, ds, vs, _, h, More.refl _ _, List.prefix_refl _, ha⟩
/-- Slots by numbers, texts and values. -/
structure SlV (T : List Ex) (ds : List (List UInt8)) (vs : List Int) (ns : List Nat) (l : List (List UInt8)) (z : List Int) : Prop where
  n16 : ns.length = 16
  l16 : l.length = 16
  z16 : z.length = 16
  tv : ∀ i, i < 16 → TV T ds vs (ns.getD i 0) (l.getD i []) (z.getD i 0)
theorem SlV.more {regs mem : List Int} {T : List Ex} {ds : List (List UInt8)} {vs : List Int} {T' : List Ex} {ds' : List (List UInt8)} {vs' : List Int} {ns : List Nat} {l : List (List UInt8)} {z : List Int} (hb : Tb regs mem T ds vs) (h : SlV T ds vs ns l z) (k : More T ds T' ds') (kv : vs <+: vs') : SlV T' ds' vs' ns l z :=
  ⟨h.n16, h.l16, h.z16, fun i hi => (h.tv i hi).more hb k kv⟩
theorem SlV.set {T : List Ex} {ds : List (List UInt8)} {vs : List Int} {ns : List Nat} {l : List (List UInt8)} {z : List Int} (h : SlV T ds vs ns l z) {d n : Nat} {x : List UInt8} {v : Int} (hd : d < 16) (ht : TV T ds vs n x v) : SlV T ds vs (ns.set d n) (l.set d x) (z.set d v) := by
  refine ⟨by simp [h.n16], by simp [h.l16], by simp [h.z16], fun i hi => ?_⟩
  rw [getD_set _ _ _ _ _ (by rw [h.n16]; exact hd), getD_set _ _ _ _ _ (by rw [h.l16]; exact hd), getD_set _ _ _ _ _ (by rw [h.z16]; exact hd)]
  by_cases hid : i = d
  · rw [if_pos hid, if_pos hid, if_pos hid]; exact ht
  · rw [if_neg hid, if_neg hid, if_neg hid]; exact h.tv i hi
theorem SlV.fold {regs mem : List Int} : ∀ (ps : List PutN) {T : List Ex} {ds : List (List UInt8)} {vs : List Int} {ns : List Nat} {l : List (List UInt8)} {z : List Int}, Tb regs mem T ds vs → SlV T ds vs ns l z → (∀ p ∈ ps, okPut p ∧ p.k < 4294967296) →
    ∃ T' ds' vs' ns', Tb regs mem T' ds' vs' ∧ More T ds T' ds' ∧ vs <+: vs' ∧ SlV T' ds' vs' ns' (ps.foldl stS l) (ps.foldl (stD mem) z) := by
  intro ps
  induction ps with
  | nil => intro T ds vs ns l z hb hs _; exact ⟨T, ds, vs, ns, hb, More.refl _ _, List.prefix_refl _, hs⟩
  | cons p ps ih =>
    intro T ds vs ns l z hb hs hp
    obtain ⟨hp1, hp2⟩ := hp p List.mem_cons_self
    obtain ⟨T1, ds1, vs1, n, g1, g2, g3, g4⟩ := hb.put hs.tv hp1 hp2
    have hs1 := (hs.more hb g2 g3).set hp1.1 g4
    obtain ⟨T2, ds2, vs2, ns2, q1, q2, q3, q4⟩ := ih g1 hs1 (fun q hq => hp q (List.mem_cons_of_mem _ hq))
    exact ⟨T2, ds2, vs2, ns2, q1, g2.trans q2, g3.trans q3, q4⟩
theorem Tb.nil (regs mem : List Int) : Tb regs mem [] [] [] := ⟨⟨rfl, fun i e h => by simp at h, fun i j e h => by simp at h⟩, ⟨rfl, fun i e h => by simp at h⟩⟩
theorem Tb.beg {regs mem : List Int} (hr : regs.length = 8) : ∀ k, k ≤ 16 → ∀ {T : List Ex} {ds : List (List UInt8)} {vs : List Int}, Tb regs mem T ds vs → ∃ T' ds' vs', ∃ ns : List Nat, Tb regs mem T' ds' vs' ∧ More T ds T' ds' ∧ vs <+: vs' ∧ ns.length = k ∧ ∀ i, i < k → TV T' ds' vs' (ns.getD i 0) (begS.getD i []) ((begD regs).getD i 0) := by
  intro k
  induction k with
  | zero => intro _ T ds vs hb; exact ⟨T, ds, vs, [], hb, More.refl _ _, List.prefix_refl _, rfl, fun i hi => by omega⟩
  | succ k ih =>
    intro hk T ds vs hb
    obtain ⟨T1, ds1, vs1, ns1, g1, g2, g3, g4, g5⟩ := ih (by omega) hb
    have hx : begS.getD k [] = if k < 8 then sReg k else sCon 0 := by
      unfold begS
      rw [List.getD_eq_getElem?_getD, List.getElem?_map, List.getElem?_range (by omega)]; rfl
    have fin : ∀ (e : Ex), okE T1.length e → strE ds1 e = begS.getD k [] → evE regs mem vs1 e = (begD regs).getD k 0 → ∃ T' ds' vs', ∃ ns : List Nat, Tb regs mem T' ds' vs' ∧ More T ds T' ds' ∧ vs <+: vs' ∧ ns.length = k + 1 ∧ ∀ i, i < k + 1 → TV T' ds' vs' (ns.getD i 0) (begS.getD i []) ((begD regs).getD i 0) := by
      intro e he h1 h2
      obtain ⟨T2, ds2, vs2, n, q1, q2, q3, q4⟩ := g1.hold he
      refine ⟨T2, ds2, vs2, ns1 ++ [n], q1, g2.trans q2, g3.trans q3, by simp [g4], fun i hi => ?_⟩
      by_cases hik : i < k
      · rw [getD_app _ _ (by omega)]
        exact (g5 i hik).more g1 q2 q3
      · have : i = k := by omega
        subst this
        rw [List.getD_eq_getElem?_getD, ← g4, List.getElem?_append_right (Nat.le_refl _), Nat.sub_self, g4]
        rw [h1, h2] at q4
        exact q4
    by_cases h8 : k < 8
    · refine fin (0, 0, 0, k) (.inl ⟨rfl, rfl, rfl, h8⟩) (by rw [hx, if_pos h8]; rfl) ?_
      unfold evE begD
      rw [if_pos rfl, getD_app _ _ (by omega)]
    · refine fin (1, 0, 0, 0) (.inr (.inl ⟨rfl, rfl, rfl, by decide⟩)) (by rw [hx, if_neg h8]; rfl) ?_
      unfold evE begD
      rw [if_neg (by decide), if_pos rfl, List.getD_eq_getElem?_getD, List.getElem?_append_right (by omega), List.getElem?_replicate, if_pos (by omega)]
      rfl
/-- THE HEART: the same expressions, the same registers. -/
theorem same_do {ps qs : List PutN} (hp : ∀ p ∈ ps, okPut p ∧ p.k < 4294967296) (hq : ∀ p ∈ qs, okPut p ∧ p.k < 4294967296) (h : (comeS ps).take 8 = (comeS qs).take 8) {regs : List Int} (mem : List Int) (hr : regs.length = 8) : (doL mem ps (begD regs)).take 8 = (doL mem qs (begD regs)).take 8 := by
  obtain ⟨T0, ds0, vs0, ns0, b0, _, _, l0, t0⟩ := Tb.beg (mem := mem) hr 16 (Nat.le_refl _) (Tb.nil regs mem)
  have s0 : SlV T0 ds0 vs0 ns0 begS (begD regs) := ⟨l0, by simp [begS], by simp [begD, hr], t0⟩
  obtain ⟨T1, ds1, vs1, ns1, b1, m1, p1, s1⟩ := SlV.fold ps b0 s0 hp
  obtain ⟨T2, ds2, vs2, ns2, b2, m2, p2, s2⟩ := SlV.fold qs b1 (s0.more b0 m1 p1) hq
  have s1' := s1.more b1 m2 p2
  rw [take_eq_iff [] (by rw [comeS_len]; decide) (by rw [comeS_len]; decide)] at h
  rw [take_eq_iff 0 (by rw [show (doL mem ps (begD regs)).length = 16 from s1.z16]; decide) (by rw [show (doL mem qs (begD regs)).length = 16 from s2.z16]; decide)]
  intro i hi
  have h1 := s1'.tv i (by omega)
  have h2 := s2.tv i (by omega)
  have hx : (ps.foldl stS begS).getD i [] = (qs.foldl stS begS).getD i [] := h i hi
  have hn : ns1.getD i 0 = ns2.getD i 0 := b2.ti.inj h1.1.1 h2.1.1 (by rw [h1.1.2, h2.1.2, hx])
  show (ps.foldl (stD mem) (begD regs)).getD i 0 = (qs.foldl (stD mem) (begD regs)).getD i 0
  rw [← h1.2, ← h2.2, hn]
end Go.Proofs.YtmmflekajbeamaaDoor
