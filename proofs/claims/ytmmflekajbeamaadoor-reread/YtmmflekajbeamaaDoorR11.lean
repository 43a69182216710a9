/-
  Plans, the document's answer: numbers as texts; expressions as texts (Number, constant, joined, loaded, begin).
  An instruction is read (readInstruction).
  A line is read (readLine).
-/
import Derived.Test.YtmmflekajbeamaaDoorR10
import Derived.Test.YtmmflekajbeamaaDoorR04
import Derived.Test.YtmmflekajbeamaaDoorR09
namespace Go.Proofs.YtmmflekajbeamaaDoor
open Go.RowKit

theorem byte_str (w : World) (q : Nat) : (convert 76 9 (.slice (some ⟨w.heap.size, 0, none⟩) 1 1)).run Tryd.prog (w.alloc (.cells #[.int .u8 ((q : Int) % 256)] 5)) = .ok (.string (bya [UInt8.ofNat (q % 256)])) (w.alloc (.cells #[.int .u8 ((q : Int) % 256)] 5)) := by
  refine run_convert_bytes_back _ _ _ 5 ⟨w.heap.size, 0, none⟩ 1 [UInt8.ofNat (q % 256)] Tryd.underlying76 Tryd.underlying5 Tryd.underlying9 (fun j hj => ?_)
  match j, hj with
  | 0, _ =>
    show (w.alloc _).cell? ⟨w.heap.size, 0, none⟩ = some (.int .u8 ((UInt8.ofNat (q % 256)).toNat : Int))
    rw [World.cell?_alloc_at (hn := rfl), UInt8.toNat_ofNat', Nat.mod_mod]
    simp
theorem numB_succ (k v : Nat) : bya [UInt8.ofNat (v / 256 ^ k % 256)] ++ bya (numB k v) = bya (numB (k + 1) v) := by rw [bya_app]; rfl

set_option maxRecDepth 100000 in
set_option maxHeartbeats 1000000 in
theorem number_ref (v n : Nat) (w : World) (hn : n ≤ 8) (hv : v < 9223372036854775808) :
    Calls Tryd.prog 94 #[.int .i64 (v : Int), .int .i64 (n : Int)] w fun e' w' => e' = .returned (.string (bya (numB n v))) ∧ Below w.heap.size w w' := by
  go_enter Tryd.func94, Tryd.ntmps94
  go_wp2_with fail
  go_loopw [0, 5, 6] (fun x s i wr => ∃ k : Nat, k ≤ n ∧ i = .int .i64 k ∧ s = .string (bya (numB k v)) ∧ x = .int .i64 ((v / 256 ^ k : Nat) : Int) ∧ Below w.heap.size w wr) (fun _ _ i _ => n - (intOf i).toNat)
  case atStart => exact ⟨0, Nat.zero_le _, rfl, rfl, by simp, Below.refl _ _⟩
  case round =>
    obtain ⟨k, hk, rfl, rfl, rfl, hbl⟩ := hrel
    have HBl := hide hbl
    have hwz := hbl.size
    by_cases hlt : k < n
    · have hlt' : (k : Int) < (n : Int) := by omega
      have hq : v / 256 ^ k < 9223372036854775808 := Nat.lt_of_le_of_lt (Nat.div_le_self _ _) hv
      have HE := hide (numB_succ k v)
      have HQ : Hid (v / 256 ^ (k + 1) = v / 256 ^ k / 256) := by unfold Hid; rw [Nat.pow_succ, Nat.div_div_eq_div_mul]
      have kc := byte_str wr (v / 256 ^ k)
      have z1 : (bya (numB k v)).size ≤ 8 := by rw [bya_size, numB_len]; omega
      have z2 : (bya [UInt8.ofNat (v / 256 ^ k % 256)]).size ≤ 8 := by rw [bya_size]; exact Nat.le_of_ble_eq_true rfl
      generalize bya (numB k v) = D1 at *
      generalize bya [UInt8.ofNat (v / 256 ^ k % 256)] = D2 at *
      generalize v / 256 ^ k = q at *
      clear hbl
      go_wp2_with fail
      refine ⟨⟨k + 1, by omega, by go_num, ?_, ?_, HBl.out.alloc hwz _⟩, by simp [intOf]; omega⟩
      · rw [HE.out]
      · rw [HQ.out]; go_num
    · have hlt' : ¬ (k : Int) < (n : Int) := by omega
      obtain rfl : k = n := by omega
      clear hbl
      go_wp2_with fail
      go_ret
      exact ⟨rfl, HBl.out⟩

set_option maxRecDepth 100000 in
set_option maxHeartbeats 1000000 in
theorem constant_ref (x : List UInt8) (w : World) (hx : 0 < x.length) (hl : x.length ≤ 100000) :
    Calls Tryd.prog 159 #[.string (bya x)] w fun e' w' => e' = .returned (.bool (isCon x)) ∧ w' = w := by
  have hz : (bya x).size = x.length := bya_size x
  have hE : ((bt (bya x) 0 : Int) == 35) = isCon x := by
    unfold isCon bt bya
    match x, hx with
    | c :: t, _ =>
      show (((c.toNat : Nat) : Int) == 35) = (c == 35)
      rw [Bool.eq_iff_iff, beq_iff_eq, beq_iff_eq, ← UInt8.toNat_inj]
      show _ ↔ c.toNat = 35
      omega
  have HE := hide hE
  have h0 : (0 : Int) < ((bya x).size : Int) := by omega
  have h0n : 0 < (bya x).size := by omega
  clear hE
  generalize bya x = D at *
  have hg := bt_get D 0 h0n
  go_enter Tryd.func159, Tryd.ntmps159
  go_wp2_with fail
  go_ret
  exact ⟨ret_bool HE.out, rfl⟩
theorem value_x (x : List UInt8) : beN (bya x) 1 4 = valX x := rfl

set_option maxRecDepth 100000 in
set_option maxHeartbeats 2000000 in
theorem joined_ref (op : Nat) (x y : List UInt8) (m : Nat) (w : World) (k2 : 2 ≤ op) (k5 : op ≤ 5) (hx : XS m x) (hy : XS m y) (hm : m ≤ 40000) :
    Calls Tryd.prog 129 #[.int .i64 (op : Int), .string (bya x), .string (bya y)] w fun e' w' => e' = .returned (.string (bya (jnS op x y))) ∧ Below w.heap.size w w' := by
  have hxl : 0 < x.length := by rcases hx.2 with ⟨v, _, rfl⟩ | ⟨_, h⟩; exact Nat.zero_lt_succ _; exact h
  have hyl : 0 < y.length := by rcases hy.2 with ⟨v, _, rfl⟩ | ⟨_, h⟩; exact Nat.zero_lt_succ _; exact h
  have hxm := hx.1; have hym := hy.1
  have HCx := hide (fun w' => constant_ref x w' hxl (by omega))
  have HCy := hide (fun w' => constant_ref y w' hyl (by omega))
  have z1 : (bya x).size ≤ 40000 := by rw [bya_size]; omega
  have z2 : (bya y).size ≤ 40000 := by rw [bya_size]; omega
  by_cases hc : isCon x = true ∧ isCon y = true
  · obtain ⟨cx, cy⟩ := hc
    obtain ⟨vx, hvx, ex⟩ : ∃ v, v < 4294967296 ∧ x = sCon v := by rcases hx.2 with h | ⟨h, _⟩; exact h; rw [cx] at h; cases h
    obtain ⟨vy, hvy, ey⟩ : ∃ v, v < 4294967296 ∧ y = sCon v := by rcases hy.2 with h | ⟨h, _⟩; exact h; rw [cy] at h; cases h
    have HV1 := hide (fun w' => value_any (bya x) 1 4 w' (by decide) (by rw [bya_size, ex, sCon_len]; decide) (by omega))
    have HV2 := hide (fun w' => value_any (bya y) 1 4 w' (by decide) (by rw [bya_size, ey, sCon_len]; decide) (by omega))
    have e1 : beN (bya x) 1 4 = vx := by rw [value_x, ex, valX_con _ hvx]
    have e2 : beN (bya y) 1 4 = vy := by rw [value_x, ey, valX_con _ hvy]
    rw [e1] at HV1
    rw [e2] at HV2
    have HW := hide (fun w' => works_any op vx vy w' (by omega) (by omega) (by omega) (by omega) (by omega) (by omega))
    have hwb := wk_bd op vx vy (by omega) (by omega) (by omega) (by omega)
    have HJ : Hid (bya (jnS op x y) = (⟨#[35]⟩ : ByteArray) ++ bya (numB 4 (wk op vx vy).toNat)) := by
      unfold Hid jnS
      rw [if_pos ⟨cx, cy⟩, ex, ey, valX_con _ hvx, valX_con _ hvy, show (⟨#[35]⟩ : ByteArray) = bya [35] from rfl, bya_app]
      rfl
    obtain ⟨c, hcc⟩ := Int.eq_ofNat_of_zero_le hwb.1
    rw [hcc] at HW HJ
    rw [Int.toNat_natCast] at HJ
    have HN := hide (fun w' => number_ref c 4 w' (by decide) (by omega))
    have z3 : (bya (numB 4 c)).size ≤ 4 := by rw [bya_size, numB_len]; decide
    rw [cx] at HCx
    rw [cy] at HCy
    generalize bya (numB 4 c) = D3 at *
    generalize bya x = D1 at *
    generalize bya y = D2 at *
    generalize bya (jnS op x y) = D at *
    clear ex ey e1 e2 hx hy hxm hym hxl hyl cx cy hwb hcc
    go_enter Tryd.func129, Tryd.ntmps129
    go_wp2_with fail
    refine (unhide HCx _).mono ?_
    rintro e w' ⟨rfl, hw⟩
    obtain rfl := hw.symm
    go_wp2_with fail
    refine (unhide HCy _).mono ?_
    rintro e w' ⟨rfl, hw⟩
    obtain rfl := hw.symm
    go_wp2_with fail
    refine (unhide HV1 _).mono ?_
    rintro e w' ⟨rfl, hw⟩
    obtain rfl := hw.symm
    go_wp2_with fail
    refine (unhide HV2 _).mono ?_
    rintro e w' ⟨rfl, hw⟩
    obtain rfl := hw.symm
    go_wp2_with fail
    refine (unhide HW _).mono ?_
    rintro e w' ⟨rfl, hw⟩
    obtain rfl := hw.symm
    go_wp2_with fail
    refine (unhide HN _).mono ?_
    rintro e w1 ⟨rfl, hb⟩
    have HB := hide hb
    clear hb
    go_wp2_with fail
    go_ret
    rw [HJ.out]
    exact ⟨rfl, HB.out⟩
  · have HJ : Hid (bya (jnS op x y) = (((⟨#[40]⟩ : ByteArray) ++ bya (numB 1 op)) ++ bya x) ++ bya y ++ (⟨#[41]⟩ : ByteArray)) := by
      unfold Hid jnS
      rw [if_neg hc, show (⟨#[40]⟩ : ByteArray) = bya [40] from rfl, show (⟨#[41]⟩ : ByteArray) = bya [41] from rfl, bya_app, bya_app, bya_app, bya_app]
      unfold sOp
      simp
    have HN := hide (fun w' => number_ref op 1 w' (by decide) (by omega))
    have z3 : (bya (numB 1 op)).size ≤ 4 := by rw [bya_size, numB_len]; decide
    have hcc : isCon x = false ∨ (isCon x = true ∧ isCon y = false) := by
      cases h1 : isCon x
      · exact .inl rfl
      · cases h2 : isCon y
        · exact .inr ⟨rfl, rfl⟩
        · exact absurd ⟨h1, h2⟩ hc
    generalize bya (numB 1 op) = D3 at *
    generalize bya x = D1 at *
    generalize bya y = D2 at *
    generalize bya (jnS op x y) = D at *
    clear hx hy hxm hym hxl hyl hc
    rcases hcc with h1 | ⟨h1, h2⟩
    · rw [h1] at HCx
      clear h1
      go_enter Tryd.func129, Tryd.ntmps129
      go_wp2_with fail
      refine (unhide HCx _).mono ?_
      rintro e w' ⟨rfl, hw⟩
      obtain rfl := hw.symm
      go_wp2_with fail
      refine (unhide HCy _).mono ?_
      rintro e w' ⟨rfl, hw⟩
      obtain rfl := hw.symm
      go_wp2_with fail
      refine (unhide HN _).mono ?_
      rintro e w1 ⟨rfl, hb⟩
      have HB := hide hb
      clear hb
      go_wp2_with fail
      go_ret
      rw [HJ.out]
      exact ⟨rfl, HB.out⟩
    · rw [h1] at HCx
      rw [h2] at HCy
      clear h1 h2
      go_enter Tryd.func129, Tryd.ntmps129
      go_wp2_with fail
      refine (unhide HCx _).mono ?_
      rintro e w' ⟨rfl, hw⟩
      obtain rfl := hw.symm
      go_wp2_with fail
      refine (unhide HCy _).mono ?_
      rintro e w' ⟨rfl, hw⟩
      obtain rfl := hw.symm
      go_wp2_with fail
      refine (unhide HN _).mono ?_
      rintro e w1 ⟨rfl, hb⟩
      have HB := hide hb
      clear hb
      go_wp2_with fail
      go_ret
      rw [HJ.out]
      exact ⟨rfl, HB.out⟩

set_option maxRecDepth 100000 in
set_option maxHeartbeats 2000000 in
theorem loaded_ref (x : List UInt8) (k m : Nat) (w : World) (hk : k ≤ 4095) (hx : XS m x) (hm : m ≤ 40000) :
    Calls Tryd.prog 128 #[.string (bya x), .int .i64 (k : Int)] w fun e' w' => e' = .returned (.string (bya (ldS x k))) ∧ Below w.heap.size w w' := by
  have hxl : 0 < x.length := by rcases hx.2 with ⟨v, _, rfl⟩ | ⟨_, h⟩; exact Nat.zero_lt_succ _; exact h
  have hxm := hx.1
  have HCx := hide (fun w' => constant_ref x w' hxl (by omega))
  have z1 : (bya x).size ≤ 40000 := by rw [bya_size]; omega
  by_cases hc : isCon x = true
  · obtain ⟨vx, hvx, ex⟩ : ∃ v, v < 4294967296 ∧ x = sCon v := by rcases hx.2 with h | ⟨h, _⟩; exact h; rw [hc] at h; cases h
    have HV1 := hide (fun w' => value_any (bya x) 1 4 w' (by decide) (by rw [bya_size, ex, sCon_len]; decide) (by omega))
    have e1 : beN (bya x) 1 4 = vx := by rw [value_x, ex, valX_con _ hvx]
    rw [e1] at HV1
    have HJ : Hid (bya (ldS x k) = (⟨#[91]⟩ : ByteArray) ++ ((⟨#[35]⟩ : ByteArray) ++ bya (numB 4 ((vx + k) % 128))) ++ bya (numB 2 0) ++ (⟨#[93]⟩ : ByteArray)) := by
      unfold Hid ldS
      rw [if_pos hc, ex, valX_con _ hvx, show (⟨#[91]⟩ : ByteArray) = bya [91] from rfl, show (⟨#[35]⟩ : ByteArray) = bya [35] from rfl, show (⟨#[93]⟩ : ByteArray) = bya [93] from rfl, bya_app, bya_app, bya_app, bya_app]
      unfold sLd sCon
      simp
    have e2 : ((vx : Int) + (k : Int)) % 128 = (((vx + k) % 128 : Nat) : Int) := by omega
    have HN1 := hide (fun w' => number_ref ((vx + k) % 128) 4 w' (by decide) (by omega))
    have HN2 : Hid (∀ w', Calls Tryd.prog 94 #[.int .i64 0, .int .i64 2] w' fun e' w'' => e' = .returned (.string (bya (numB 2 0))) ∧ Below w'.heap.size w' w'') := fun w' => number_ref 0 2 w' (by decide) (by omega)
    rw [← e2] at HN1
    have z3 : (bya (numB 4 ((vx + k) % 128))).size ≤ 4 := by rw [bya_size, numB_len]; decide
    have z4 : (bya (numB 2 0)).size ≤ 4 := by rw [bya_size, numB_len]; decide
    rw [hc] at HCx
    generalize bya (numB 4 ((vx + k) % 128)) = D3 at *
    generalize bya (numB 2 0) = D4 at *
    generalize bya x = D1 at *
    generalize bya (ldS x k) = D at *
    clear ex e1 e2 hx hxm hxl hc
    go_enter Tryd.func128, Tryd.ntmps128
    go_wp2_with fail
    refine (unhide HCx _).mono ?_
    rintro e w' ⟨rfl, hw⟩
    obtain rfl := hw.symm
    go_wp2_with fail
    refine (unhide HV1 _).mono ?_
    rintro e w' ⟨rfl, hw⟩
    obtain rfl := hw.symm
    go_wp2_with fail
    refine (unhide HN1 _).mono ?_
    rintro e w1 ⟨rfl, hb⟩
    have HB := hide hb
    have hz := hb.size
    clear hb
    go_wp2_with fail
    refine (unhide HN2 _).mono ?_
    rintro e w2 ⟨rfl, hb⟩
    have HB2 := hide (HB.out.trans (hb.mono hz))
    clear hb
    go_wp2_with fail
    go_ret
    rw [HJ.out]
    exact ⟨rfl, HB2.out⟩
  · have hcf : isCon x = false := by simpa using hc
    have HJ : Hid (bya (ldS x k) = (⟨#[91]⟩ : ByteArray) ++ bya x ++ bya (numB 2 k) ++ (⟨#[93]⟩ : ByteArray)) := by
      unfold Hid ldS
      rw [if_neg hc, show (⟨#[91]⟩ : ByteArray) = bya [91] from rfl, show (⟨#[93]⟩ : ByteArray) = bya [93] from rfl, bya_app, bya_app, bya_app]
      unfold sLd
      simp
    have HN2 := hide (fun w' => number_ref k 2 w' (by decide) (by omega))
    have z4 : (bya (numB 2 k)).size ≤ 4 := by rw [bya_size, numB_len]; decide
    rw [hcf] at HCx
    generalize bya (numB 2 k) = D4 at *
    generalize bya x = D1 at *
    generalize bya (ldS x k) = D at *
    clear hx hxm hxl hc hcf
    go_enter Tryd.func128, Tryd.ntmps128
    go_wp2_with fail
    refine (unhide HCx _).mono ?_
    rintro e w' ⟨rfl, hw⟩
    obtain rfl := hw.symm
    go_wp2_with fail
    refine (unhide HN2 _).mono ?_
    rintro e w2 ⟨rfl, hb⟩
    have HB2 := hide hb
    clear hb
    go_wp2_with fail
    go_ret
    rw [HJ.out]
    exact ⟨rfl, HB2.out⟩
end Go.Proofs.YtmmflekajbeamaaDoor

namespace Go.Proofs.YtmmflekajbeamaaDoor
open Go.RowKit Go.Maps

theorem rowIx_some {l : List UInt8} {n : Nat} (h : rowIx l = some n) : n < 12 ∧ rowNm n = l := by
  unfold rowIx at h
  have h1 := List.mem_of_find?_eq_some h
  have h2 := List.find?_some h
  exact ⟨List.mem_range.1 h1, by simpa using h2⟩
theorem rowIx_none {l : List UInt8} (h : rowIx l = none) : instB l = false := by
  unfold rowIx at h
  unfold instB
  rw [List.find?_eq_none] at h
  rw [Bool.eq_false_iff]
  intro h2
  obtain ⟨j, hj, h3⟩ := List.any_eq_true.1 h2
  exact h j hj h3
theorem ba_ext {s : ByteArray} {l : List UInt8} (h : l = s.data.toList) : s = ⟨l.toArray⟩ := by
  obtain ⟨d⟩ := s
  congr 1
  rw [h]

/-- What a call that reads a part of the text leaves. -/
def RdPost (B N b : Nat) (vw vu : Value) (w : World) (r : PS ⊕ (Int × Int × Int)) (e' : Ending) (w' : World) : Prop :=
  ∃ vw' vu', PFr B N b vw vu vw' vu' w w' ∧ ((∃ ps', r = .inl ps' ∧ ProgAt B N ps' vw' b vu' w' ∧ e' = .returned (.agg #[.int .i64 0, .int .i64 0, .int .i64 0])) ∨ ∃ l c e, r = .inr (l, c, e) ∧ e ≠ 0 ∧ e' = .returned (.agg #[.int .i64 l, .int .i64 c, .int .i64 e]))
theorem below_set3 {B : Nat} {w w2 : World} (h : Below B w w2) {n : Nat} (hn : B ≤ n) (x y z : Value) : Below B w (((w2.setCell ⟨n, 0, none⟩ x).setCell ⟨n, 1, none⟩ y).setCell ⟨n, 2, none⟩ z) :=
  ((h.setCell (p := ⟨n, 0, none⟩) hn x).setCell (p := ⟨n, 1, none⟩) hn y).setCell (p := ⟨n, 2, none⟩) hn z
theorem pfr_set3 {B N b : Nat} {vw vu vw' vu' : Value} {w w2 : World} (h : PFr B N b vw vu vw' vu' w w2) {n : Nat} (hB : B ≤ n) (hn : w.heap.size ≤ n) (x y z : Value) : PFr B N b vw vu vw' vu' w (((w2.setCell ⟨n, 0, none⟩ x).setCell ⟨n, 1, none⟩ y).setCell ⟨n, 2, none⟩ z) :=
  ((h.setOut hB hn 0 x).setOut hB hn 1 y).setOut hB hn 2 z

def W2k (hd : Tok) (w : World) : World :=
  (w.alloc (.cells #[.string hd.text, .int .i64 hd.fl, .int .i64 hd.fc, .int .i64 hd.bl, .int .i64 hd.bc] 209)).alloc (.cells #[.int .i64 0, .int .i64 0, .int .i64 0] 116)
theorem W2k_size (hd : Tok) (w : World) : (W2k hd w).heap.size = w.heap.size + 1 + 1 := by unfold W2k; rw [size_alloc1, size_alloc1]
theorem W2k_below (hd : Tok) (w : World) : Below w.heap.size w (W2k hd w) := ((Below.refl _ _).alloc (Nat.le_refl _) _).alloc (by rw [size_alloc1]; omega) _
structure InsC (hd : Tok) (w w2 : World) : Prop where
  t0 : w2.cell? ⟨w.heap.size, 0, none⟩ = some (.string hd.text)
  t1 : w2.cell? ⟨w.heap.size, 1, none⟩ = some (.int .i64 hd.fl)
  t2 : w2.cell? ⟨w.heap.size, 2, none⟩ = some (.int .i64 hd.fc)
  t3 : w2.cell? ⟨w.heap.size, 3, none⟩ = some (.int .i64 hd.bl)
  t4 : w2.cell? ⟨w.heap.size, 4, none⟩ = some (.int .i64 hd.bc)
  f0 : w2.cell? ⟨w.heap.size + 1, 0, none⟩ = some (.int .i64 0)
  f1 : w2.cell? ⟨w.heap.size + 1, 1, none⟩ = some (.int .i64 0)
  f2 : w2.cell? ⟨w.heap.size + 1, 2, none⟩ = some (.int .i64 0)
  ff : ∀ j, w2.frozen? ⟨w.heap.size + 1, j, none⟩ = false
  z1 : w.heap.size + 1 < w2.heap.size
theorem InsC.new (hd : Tok) (w : World) : InsC hd w (W2k hd w) := by
  have e : (w.alloc (.cells #[.string hd.text, .int .i64 hd.fl, .int .i64 hd.fc, .int .i64 hd.bl, .int .i64 hd.bc] 209)).heap.size = w.heap.size + 1 := size_alloc1 _ _
  refine ⟨?_, ?_, ?_, ?_, ?_, ?_, ?_, ?_, fun j => ?_, by rw [W2k_size]; omega⟩
  iterate 5
    · unfold W2k
      rw [World.cell?_alloc_past (hn := by omega), World.cell?_alloc_at (hn := rfl)]; rfl
  iterate 3
    · unfold W2k
      rw [World.cell?_alloc_at (hn := e.symm)]; rfl
  · unfold W2k
    rw [World.frozen?_alloc_at (hn := e.symm)]
theorem InsC.below {hd : Tok} {w w2 w3 : World} (h : InsC hd w w2) {M : Nat} (hM : w.heap.size + 1 < M) (hb : Below M w2 w3) : InsC hd w w3 := by
  have k0 : ∀ j, w3.cell? ⟨w.heap.size, j, none⟩ = w2.cell? ⟨w.heap.size, j, none⟩ := fun j => below_cell' hb _ _ (by omega)
  have k1 : ∀ j, w3.cell? ⟨w.heap.size + 1, j, none⟩ = w2.cell? ⟨w.heap.size + 1, j, none⟩ := fun j => below_cell' hb _ _ hM
  exact ⟨(k0 0).trans h.t0, (k0 1).trans h.t1, (k0 2).trans h.t2, (k0 3).trans h.t3, (k0 4).trans h.t4, (k1 0).trans h.f0, (k1 1).trans h.f1, (k1 2).trans h.f2, fun j => (hb.frozen (p := ⟨w.heap.size + 1, j, none⟩) hM).trans (h.ff j), block_lt_of_cell ((k1 0).trans h.f0)⟩

set_option maxRecDepth 100000 in
set_option maxHeartbeats 2000000 in
theorem readIns_any (B N : Nat) (ps : PS) (vw : Value) (b : Nat) (vu : Value) (hd : Tok) (v : Value) (parts : List Tok) (w : World) (h : ProgAt B N ps vw b vu w) (ht : Tab w) (hsl : SlAt w v parts) (hlow : ∀ a m c, v = .slice (some a) m c → a.block < B)
    (hpl : parts.length ≤ 5000) (hts : ∀ t ∈ parts, t.text.size ≤ maxLen) (hwl : ps.words.length ≤ 128) (hul : ps.uses.length + 3 ≤ 5000) :
    Calls Tryd.prog 158 #[.pointer (some ⟨N, 0, none⟩), .agg (tokC hd).toArray, v] w (RdPost B N b vw vu w (rdIns ps hd parts)) := by
  obtain ⟨wa, wc, rfl⟩ := owns_len h.wd
  have hBw : B ≤ w.heap.size := Nat.le_trans h.bN (Nat.le_of_lt h.nlt)
  have HP := hide h
  have HSl := hide hsl
  have HLow := hide hlow
  have HTs := hide hts
  clear h hsl hlow hts
  have hvs : ∃ a cap, v = .slice a parts.length cap := by obtain ⟨a, cap, e, _⟩ := HSl.out; exact ⟨a, cap, e⟩
  obtain ⟨a, cap, rfl⟩ := hvs
  simp only [tokC]
  cases hix : rowIx hd.text.data.toList with
  | none =>
    have HR : Hid (rdIns ps hd parts = .inr (hd.fl, hd.fc, 4)) := by unfold Hid rdIns; rw [hix]
    have HN := hide (fun w2 (h2 : Tab w2) => byName_no hd.text w2 (rowIx_none hix) h2)
    clear hix
    go_enter Tryd.func158, Tryd.ntmps158
    go_wp2_with fail
    refine (unhide HN _ (ht.below ht.pos (W2k_below hd w))).mono ?_
    rintro e w2 ⟨rfl, hb2⟩
    have HB2 : Hid (Below w.heap.size w w2) := (W2k_below hd w).trans (hb2.mono (W2k_below hd w).size)
    obtain ⟨t0, t1, t2, t3, t4, f0, f1, f2, ff, z1⟩ := (InsC.new hd w).below (by show w.heap.size + 1 < (W2k hd w).heap.size; rw [W2k_size]; omega) hb2
    clear hb2
    have z0 : w.heap.size < w2.heap.size := by omega
    simp only [zeroRow]
    go_wp2_with fail
    refine bodyPost_ret (v := .agg #[.int .i64 hd.fl, .int .i64 hd.fc, .int .i64 4]) (by simp [results, Tryd.results158, go_sem, f0, f1, f2, z1]) rfl ?_
    unfold RdPost
    refine ⟨_, _, PFr.of_below hBw ?_, .inr ⟨_, _, _, HR.out, by decide, rfl⟩⟩
    have y := below_set3 HB2.out (Nat.le_succ w.heap.size) (.int .i64 hd.fl) (.int .i64 hd.fc) (.int .i64 4)
    exact y.alloc y.size _
  | some n =>
    obtain ⟨hn, hnm⟩ := rowIx_some hix
    have htx : hd.text = ⟨(rowNm n).toArray⟩ := ba_ext hnm
    have HR : Hid (rdIns ps hd parts = match chkGo (rowPt n) 0 hd parts with | some (l, c) => .inr (l, c, 4) | none => if ps.words.length = 128 then .inr (hd.fl, hd.fc, 5) else .inl (layS n parts ps)) := by
      unfold Hid rdIns
      simp only [hix]
      cases chkGo (rowPt n) 0 hd parts with
      | none => rfl
      | some p => rfl
    have HN := hide (fun w2 (h2 : Tab w2) => byName_yes n w2 hn h2)
    rw [← htx] at HN
    have HTx := hide htx
    clear hix hnm htx
    go_enter Tryd.func158, Tryd.ntmps158
    go_wp2_with fail
    refine (unhide HN _ (ht.below ht.pos (W2k_below hd w))).mono ?_
    rintro e w2 ⟨rfl, hb2⟩
    have HB2 : Hid (Below w.heap.size w w2) := (W2k_below hd w).trans (hb2.mono (W2k_below hd w).size)
    have HC2 := hide ((InsC.new hd w).below (by show w.heap.size + 1 < (W2k hd w).heap.size; rw [W2k_size]; omega) hb2)
    obtain ⟨t0, t1, t2, t3, t4, f0, f1, f2, ff, z1⟩ := HC2.out
    clear hb2
    have z0 : w.heap.size < w2.heap.size := by omega
    have HW3 : Hid (Below w2.heap.size w2 (w2.alloc (.cells #[.string ⟨(rowNm n).toArray⟩, .int .i64 (rowOp n), .string ⟨(rowPt n).toArray⟩] 198))) := (Below.refl _ _).alloc (Nat.le_refl _) _
    have HCk := hide (checkParts_any n hd _ parts (w2.alloc (.cells #[.string ⟨(rowNm n).toArray⟩, .int .i64 (rowOp n), .string ⟨(rowPt n).toArray⟩] 198)) (HSl.out.below (HB2.out.trans (HW3.out.mono HB2.out.size))) (ht.below ht.pos (HB2.out.trans (HW3.out.mono HB2.out.size))) hpl HTs.out)
    simp only [rowV, tokC] at HCk ⊢
    go_wp2_with fail
    refine (unhide HCk).mono ?_
    rintro e w3 ⟨hb3, hres⟩
    have HB3 : Hid (Below w2.heap.size w2 w3) := HW3.out.trans (hb3.mono HW3.out.size)
    have HC3 := hide (HC2.out.below z1 HB3.out)
    have HBw : Hid (Below w.heap.size w w3) := HB2.out.trans (HB3.out.mono HB2.out.size)
    have r0 : w3.cell? ⟨w2.heap.size, 0, none⟩ = some (.string ⟨(rowNm n).toArray⟩) := by rw [below_cell' hb3 _ _ (by rw [size_alloc1]; omega), World.cell?_alloc_at (hn := rfl)]; rfl
    have r1 : w3.cell? ⟨w2.heap.size, 1, none⟩ = some (.int .i64 (rowOp n)) := by rw [below_cell' hb3 _ _ (by rw [size_alloc1]; omega), World.cell?_alloc_at (hn := rfl)]; rfl
    have r2 : w3.cell? ⟨w2.heap.size, 2, none⟩ = some (.string ⟨(rowPt n).toArray⟩) := by rw [below_cell' hb3 _ _ (by rw [size_alloc1]; omega), World.cell?_alloc_at (hn := rfl)]; rfl
    have zr : w2.heap.size < w3.heap.size := block_lt_of_cell r0
    clear hb3 t0 t1 t2 t3 t4 f0 f1 f2 ff z1 HCk HW3 HN
    obtain ⟨t0, t1, t2, t3, t4, f0, f1, f2, ff, z1⟩ := HC3.out
    have z0' : w.heap.size < w3.heap.size := by omega
    rcases hres with ⟨hck, rfl⟩ | ⟨l, c, hck, rfl⟩
    · rw [hck] at HR
      have hP3 := HP.out.above HBw.out
      have c0 := hP3.c0
      have hN3 := hP3.nlt
      have hNw := HP.out.nlt
      obtain ⟨k1, k2⟩ := chk_none (rowPt n) parts 0 hd (Nat.zero_le _) hck
      simp only [Nat.zero_add] at k1 k2
      have HK1 := hide k1
      have HK2 := hide k2
      clear k1 k2 hck
      by_cases hm : ps.words.length = 128
      · rw [if_pos hm] at HR
        have hm' : (ps.words.length : Int) = 128 := by omega
        clear hP3
        go_wp2_with fail
        refine bodyPost_ret (v := .agg #[.int .i64 hd.fl, .int .i64 hd.fc, .int .i64 5]) (by simp [results, Tryd.results158, go_sem, f0, f1, f2, z1]) rfl ?_
        unfold RdPost
        refine ⟨_, _, PFr.of_below hBw ?_, .inr ⟨_, _, _, HR.out, by decide, rfl⟩⟩
        have y := below_set3 HBw.out (Nat.le_succ w.heap.size) (.int .i64 hd.fl) (.int .i64 hd.fc) (.int .i64 5)
        exact y.alloc y.size _
      · rw [if_neg hm] at HR
        have hm' : ¬ (ps.words.length : Int) = 128 := by omega
        have HL := hide (fun o => lay_any B N n ps _ b vu _ parts (w3.alloc o) (hP3.alloc o) hn (HSl.out.below (HBw.out.trans ((Below.refl _ _).alloc HBw.out.size o))) HLow.out HK1.out HK2.out HTs.out hwl hul)
        simp only [rowV] at HL
        have HP3 := hide hP3
        clear hP3
        go_wp2_with fail
        refine (unhide HL _).mono ?_
        rintro e w4 ⟨rfl, vw', vu', h4, hf4⟩
        have hni : ¬ InP N (.slice wa ps.words.length wc) b vu (w.heap.size + 1) := fun hi => by have := (HP.out.inlt hi).2; omega
        have hblk : w4.heap[w.heap.size + 1]? = w3.heap[w.heap.size + 1]? := (hf4.out _ (by rw [size_alloc1]; omega) hni).trans (Below.heap_alloc w3 _ _ z1)
        have y0 : w4.cell? ⟨w.heap.size + 1, 0, none⟩ = some (.int .i64 0) := (World.cell?_of_block hblk).trans f0
        have y1 : w4.cell? ⟨w.heap.size + 1, 1, none⟩ = some (.int .i64 0) := (World.cell?_of_block hblk).trans f1
        have y2 : w4.cell? ⟨w.heap.size + 1, 2, none⟩ = some (.int .i64 0) := (World.cell?_of_block hblk).trans f2
        have yf : ∀ j, w4.frozen? ⟨w.heap.size + 1, j, none⟩ = false := fun j => (World.frozen?_of_block hblk).trans (ff j)
        have H4 := hide h4; have HF4 := hide hf4
        clear h4 hf4 t0 t1 t2 t3 t4 f0 f1 f2 ff HL hblk r0 r1 r2
        go_wp2_with fail
        refine bodyPost_ret (v := .agg #[.int .i64 0, .int .i64 0, .int .i64 0]) (by simp [results, Tryd.results158, go_sem, y0, y1, y2]) rfl ?_
        unfold RdPost
        have hnew : ¬ InP N vw' b vu' (w.heap.size + 1) := fun hi => by
          rcases HF4.out.new _ hi with h5 | h5
          · exact hni h5
          · rw [size_alloc1] at h5; omega
        have z0 := (PFr.of_below (N := N) (b := b) (vw := .slice wa ps.words.length wc) (vu := vu) hBw (HBw.out.alloc HBw.out.size _)).trans HF4.out
        refine ⟨vw', vu', pfr_set3 z0 (Nat.le_trans hBw (Nat.le_succ _)) (Nat.le_succ _) _ _ _, .inl ⟨_, HR.out, ?_, rfl⟩⟩
        exact ((H4.out.setOut hnew 0 _).setOut hnew 1 _).setOut hnew 2 _
    · rw [hck] at HR
      clear hck
      go_wp2_with fail
      refine bodyPost_ret (v := .agg #[.int .i64 l, .int .i64 c, .int .i64 4]) (by simp [results, Tryd.results158, go_sem, f0, f1, f2, z1]) rfl ?_
      unfold RdPost
      refine ⟨_, _, PFr.of_below hBw ?_, .inr ⟨_, _, _, HR.out, by decide, rfl⟩⟩
      have y := below_set3 HBw.out (Nat.le_succ w.heap.size) (.int .i64 l) (.int .i64 c) (.int .i64 4)
      exact y.alloc y.size _
end Go.Proofs.YtmmflekajbeamaaDoor

namespace Go.Proofs.YtmmflekajbeamaaDoor
open Go.RowKit Go.Maps

theorem lawS : Keyed Tryd.prog 9 := string_keyed Tryd.underlying9
theorem zeroI (w : World) : (zeroValue 3).run Tryd.prog w = .ok (.int .i64 0) w := by kernel_rfl

theorem lab_put {D : DataW Unit} {l : List (List UInt8 × Int)} (h : LabOK D l) (hD : IsMap D) (k : List UInt8) (v : Int) (hn : (l.lookup k).isSome = false) : LabOK (D.put (.string k) (.lit (.int .i64 v))) (l ++ [(k, v)]) := by
  have hl : l.lookup k = none := by cases hq : l.lookup k with | none => rfl | some x => rw [hq] at hn; cases hn
  have la : ∀ k', (l ++ [(k, v)]).lookup k' = (l.lookup k').or (if k' == k then some v else none) := by
    intro k'
    rw [List.lookup_append]
    congr 1
    unfold List.lookup
    cases k' == k <;> rfl
  intro k'
  rw [la]
  by_cases hk : k' = k
  · subst hk
    rw [hl]
    simp only [beq_self_eq_true, if_true, Option.none_or]
    exact ⟨Maps.has_put_same hD (by trivial) _, fun v' hv => by cases hv; exact Maps.atKey_put_same hD (by trivial) _ _⟩
  · have hb : (k' == k) = false := by rw [beq_eq_false_iff_ne]; exact hk
    have hne : Lit.string k' ≠ Lit.string k := fun e => hk (by cases e; rfl)
    rw [hb]
    simp only [Bool.false_eq_true, if_false, Option.or_none]
    obtain ⟨h1, h2⟩ := h k'
    exact ⟨(Maps.has_put_other hne _).trans h1, fun v' hv => (Maps.atKey_put_other hne _ _).trans (h2 v' hv)⟩

/-- The rest of a slice of tokens, behind the first. -/
def tailV (g off n cap : Nat) : Value := .slice (some ⟨g, if cap = 1 then off else off + 5, none⟩) n (cap - 1)
set_option maxRecDepth 100000 in
theorem slice1 (g off n cap : Nat) (w : World) : (Instr.slice 177 (.slice (some ⟨g, off, none⟩) (n + 1) cap) (some (.int .i64 1)) none none).run Tryd.prog w = .ok (tailV g off n cap) w := by
  have hs : (sizeOf 209).run Tryd.prog w = .ok 5 w := by kernel_rfl
  have he : Tryd.prog.elem 177 = 209 := by kernel_rfl
  have hu : Tryd.prog.underlying 177 = some (.slice (Tryd.prog.elem 177)) := by rw [he]; exact Tryd.underlying177
  rw [run_slice_l (P := Tryd.prog) w _ _ _ _ hu .i64 1 (by decide) (by omega), he, hs]
  simp only [Result.andThen, sliced, tailV]
  congr 1
  by_cases hc : cap = 1
  · rw [if_pos hc, if_pos (by simpa using hc)]
    rfl
  · rw [if_neg hc, if_neg (by simpa using hc)]
    rfl

/-- The cells of a fault, all nought, that may be written. -/
structure F0 (w : World) (F : Nat) : Prop where
  f0 : w.cell? ⟨F, 0, none⟩ = some (.int .i64 0)
  f1 : w.cell? ⟨F, 1, none⟩ = some (.int .i64 0)
  f2 : w.cell? ⟨F, 2, none⟩ = some (.int .i64 0)
  ff : ∀ j, w.frozen? ⟨F, j, none⟩ = false
theorem F0.block {w w' : World} {F : Nat} (h : F0 w F) (hb : w'.heap[F]? = w.heap[F]?) : F0 w' F :=
  ⟨(World.cell?_of_block hb).trans h.f0, (World.cell?_of_block hb).trans h.f1, (World.cell?_of_block hb).trans h.f2, fun j => (World.frozen?_of_block hb).trans (h.ff j)⟩
theorem F0.new (w : World) : F0 (w.alloc (.cells #[.int .i64 0, .int .i64 0, .int .i64 0] 116)) w.heap.size := by
  refine ⟨?_, ?_, ?_, fun j => ?_⟩
  iterate 3
    · rw [World.cell?_alloc_at (hn := rfl)]; rfl
  · rw [World.frozen?_alloc_at (hn := rfl)]
/-- Behind a call that reads a part of the text its fault is laid into the caller's own. -/
theorem rd_back {B N b : Nat} {vw vu vw1 vu1 : Value} {w w1 w2 : World} {r : PS ⊕ (Int × Int × Int)} {e' : Ending} (hp : PFr B N b vw vu vw1 vu1 w w1) {F : Nat} (hB : B ≤ F) (hF : w.heap.size ≤ F) (hlt : F < w1.heap.size) (hni : ¬ InP N vw1 b vu1 F) (hf : F0 w1 F)
    (h : RdPost B N b vw1 vu1 w1 r e' w2) : ∃ x y z : Int, e' = .returned (.agg #[.int .i64 x, .int .i64 y, .int .i64 z]) ∧ F0 w2 F ∧
      RdPost B N b vw vu w r (.returned (.agg #[.int .i64 x, .int .i64 y, .int .i64 z])) (((w2.setCell ⟨F, 0, none⟩ (.int .i64 x)).setCell ⟨F, 1, none⟩ (.int .i64 y)).setCell ⟨F, 2, none⟩ (.int .i64 z)) := by
  obtain ⟨vw2, vu2, hp2, h⟩ := h
  have hf2 := hf.block (hp2.out F hlt hni)
  have hni2 : ¬ InP N vw2 b vu2 F := fun hi => by
    rcases hp2.new F hi with h1 | h1
    · exact hni h1
    · omega
  rcases h with ⟨ps', rfl, hpa, rfl⟩ | ⟨l, c, e, rfl, he, rfl⟩
  · exact ⟨0, 0, 0, rfl, hf2, vw2, vu2, pfr_set3 (hp.trans hp2) hB hF _ _ _, .inl ⟨ps', rfl, ((hpa.setOut hni2 0 _).setOut hni2 1 _).setOut hni2 2 _, rfl⟩⟩
  · exact ⟨l, c, e, rfl, hf2, vw2, vu2, pfr_set3 (hp.trans hp2) hB hF _ _ _, .inr ⟨l, c, e, rfl, he, rfl⟩⟩

set_option maxRecDepth 100000 in
set_option maxHeartbeats 2000000 in
theorem readLine_nil (B N : Nat) (ps : PS) (vw : Value) (b : Nat) (vu : Value) (v : Value) (w : World) (h : ProgAt B N ps vw b vu w) (hsl : SlAt w v []) :
    Calls Tryd.prog 124 #[.pointer (some ⟨N, 0, none⟩), v] w (RdPost B N b vw vu w (rdLine ps [])) := by
  obtain ⟨a, cap, rfl, _, _⟩ := hsl
  have hBw : B ≤ w.heap.size := Nat.le_trans h.bN (Nat.le_of_lt h.nlt)
  have HP := hide h
  clear h
  go_enter Tryd.func124, Tryd.ntmps124
  go_wp2_with fail
  refine bodyPost_ret (v := .agg #[.int .i64 0, .int .i64 0, .int .i64 0]) (by simp [results, Tryd.results124, go_sem]) rfl ?_
  unfold RdPost
  exact ⟨vw, vu, PFr.of_below hBw ((Below.refl _ _).alloc (Nat.le_refl _) _), .inl ⟨ps, rfl, HP.out.alloc _, rfl⟩⟩

set_option maxRecDepth 100000 in
set_option maxHeartbeats 2000000 in
theorem readLine_nolab (B N : Nat) (ps : PS) (vw : Value) (b : Nat) (vu : Value) (v : Value) (t : Tok) (ts : List Tok) (w : World) (h : ProgAt B N ps vw b vu w) (ht : Tab w) (hsl : SlAt w v (t :: ts)) (hlow : ∀ a m c, v = .slice (some a) m c → a.block < B)
    (hpl : ts.length + 1 ≤ 5000) (hts : ∀ t' ∈ t :: ts, 1 ≤ t'.text.size ∧ t'.text.size ≤ 2000) (hwl : ps.words.length ≤ 128) (hul : ps.uses.length + 3 ≤ 5000) (hlab : labB t = false) :
    Calls Tryd.prog 124 #[.pointer (some ⟨N, 0, none⟩), v] w (RdPost B N b vw vu w (rdLine ps (t :: ts))) := by
  obtain ⟨a, cap, rfl, hcap, hrow⟩ := hsl
  obtain ⟨g, off, rfl, hr⟩ := hrow (by simp)
  have hgB : g < B := hlow _ _ _ rfl
  have hBw : B ≤ w.heap.size := Nat.le_trans h.bN (Nat.le_of_lt h.nlt)
  have hgw : g < w.heap.size := by omega
  obtain ⟨t0, t1, t2, t3, t4⟩ := hr 0 t (by simp)
  simp only [Nat.zero_mul, Nat.add_zero] at t0 t1 t2 t3 t4
  have hcap' : ts.length + 1 ≤ cap := hcap
  have hsl1 := slice1 g off ts.length cap
  have HRest : Hid (∀ w', Below B w w' → SlAt w' (tailV g off ts.length cap) ts) := fun w' hb =>
    ⟨_, _, rfl, by omega, fun hne => ⟨g, _, rfl, fun i u hi => by
      have := hr (i + 1) u (by simpa using hi)
      have hl : 0 < ts.length := List.length_pos_iff.2 hne
      rw [show off + (i + 1) * 5 = (if cap = 1 then off else off + 5) + i * 5 by rw [if_neg (by omega)]; omega] at this
      exact ⟨(below_cell' hb g _ hgB).trans this.r0, (below_cell' hb g _ hgB).trans this.r1, (below_cell' hb g _ hgB).trans this.r2, (below_cell' hb g _ hgB).trans this.r3, (below_cell' hb g _ hgB).trans this.r4⟩⟩⟩
  have HP := hide h
  have HTs := hide hts
  obtain ⟨ht1, ht2⟩ := hts t (by simp)
  clear h hr hrow hlow hts
  have HR : Hid (rdLine ps (t :: ts) = rdIns ps t ts) := by unfold Hid; rw [rdLine, hlab]; rfl
  have HIns : Hid (∀ w', Below w.heap.size w w' → Calls Tryd.prog 158 #[.pointer (some ⟨N, 0, none⟩), .agg (tokC t).toArray, tailV g off ts.length cap] w' (RdPost B N b vw vu w' (rdIns ps t ts))) := fun w' hb =>
    readIns_any B N ps vw b vu t _ ts w' (HP.out.above hb) (ht.below ht.pos hb) (HRest.out w' (hb.mono hBw)) (fun a m c e => by unfold tailV at e; cases e; exact hgB) (by omega) (fun u hu => by have := (HTs.out u (by simp [hu])).2; unfold maxLen; omega) hwl hul
  have hml : t.text.size ≤ maxLen := by unfold maxLen; omega
  have HNm : Hid (∀ w', Below w.heap.size w w' → Calls Tryd.prog 157 #[.string (labN t)] w' fun e' w'' => e' = .returned (.bool (nmI (labN t))) ∧ Below w'.heap.size w' w'') := fun w' hb =>
    isName_any (labN t) w' (ht.below ht.pos hb) (by unfold labN; rw [ByteArray.size_extract]; unfold maxLen; omega)
  simp only [tokC] at HIns
  cases hc : colB t.text.data.toList
  · have HCS := hide (fun w' => cutSuffix_no t.text w' hml ht1 hc)
    clear hc hlab
    go_enter Tryd.func124, Tryd.ntmps124
    go_wp2_with fail
    refine (unhide HCS _).mono ?_
    rintro e w' ⟨rfl, hw⟩
    obtain rfl := hw.symm
    go_wp2_with fail
    refine still_tail 6 (by kernel_rfl) (by kernel_rfl) ?_
    simp only [List.take_succ_cons, List.take_zero, List.drop_succ_cons, List.drop_zero]
    repeat still_step
    refine wpStill_nil ?_
    go_wp2_with fail
    refine (unhide HIns _ ((Below.refl _ _).alloc (Nat.le_refl _) _).drew).mono ?_
    intro e w2 h2
    obtain ⟨x, y, z, rfl, hf2, hpost⟩ := rd_back (F := w.heap.size) (PFr.of_below hBw ((Below.refl _ _).alloc (Nat.le_refl _) _).drew) hBw (Nat.le_refl _) (by show w.heap.size < (w.alloc _).heap.size; rw [size_alloc1]; omega) (fun hi => by have := (HP.out.inlt hi).2; omega) ((F0.new w).block rfl) h2
    obtain ⟨f0, f1, f2, ff⟩ := hf2
    have HPost := hide hpost
    clear hpost h2 t0 t1 t2 t3 t4 hsl1 HIns HCS HNm
    go_wp2_with fail
    refine bodyPost_ret (v := .agg #[.int .i64 x, .int .i64 y, .int .i64 z]) (by simp [results, Tryd.results124, go_sem, f0, f1, f2]) rfl ?_
    rw [HR.out]
    exact HPost.out
  · have hnm : nmI (labN t) = false := by unfold labB at hlab; rw [hc] at hlab; exact hlab
    have HCS := hide (fun w' => cutSuffix_yes t.text w' hml ht1 hc)
    rw [hnm] at HNm
    clear hc hlab hnm
    go_enter Tryd.func124, Tryd.ntmps124
    go_wp2_with fail
    refine (unhide HCS _).mono ?_
    rintro e w' ⟨rfl, hw⟩
    obtain rfl := hw.symm
    have HNm' : Hid (∀ w', Below w.heap.size w w' → Calls Tryd.prog 157 #[.string (t.text.extract 0 (t.text.size - 1))] w' fun e' w'' => e' = .returned (.bool false) ∧ Below w'.heap.size w' w'') := HNm
    go_wp2_with fail
    refine (unhide HNm' _ ((Below.refl _ _).alloc (Nat.le_refl _) _)).mono ?_
    rintro e w1 ⟨rfl, hb1⟩
    have HB1 : Hid (Below w.heap.size w w1) := ((Below.refl _ _).alloc (Nat.le_refl _) _).trans (hb1.mono (by rw [size_alloc1]; omega))
    have HF1 := hide ((F0.new w).block (hb1.block w.heap.size (by rw [size_alloc1]; omega)))
    have hz : w.heap.size < w1.heap.size := block_lt_of_cell HF1.out.f0
    have u0 := (below_cell' HB1.out g _ hgw).trans t0
    have u1 := (below_cell' HB1.out g _ hgw).trans t1
    have u2 := (below_cell' HB1.out g _ hgw).trans t2
    have u3 := (below_cell' HB1.out g _ hgw).trans t3
    have u4 := (below_cell' HB1.out g _ hgw).trans t4
    clear hb1 t0 t1 t2 t3 t4
    go_wp2_with fail
    refine still_tail 6 (by kernel_rfl) (by kernel_rfl) ?_
    simp only [List.take_succ_cons, List.take_zero, List.drop_succ_cons, List.drop_zero]
    repeat still_step
    refine wpStill_nil ?_
    go_wp2_with fail
    refine (unhide HIns _ HB1.out.drew).mono ?_
    intro e w2 h2
    obtain ⟨x, y, z, rfl, hf2, hpost⟩ := rd_back (F := w.heap.size) (PFr.of_below hBw HB1.out.drew) hBw (Nat.le_refl _) hz (fun hi => by have := (HP.out.inlt hi).2; omega) (HF1.out.block rfl) h2
    obtain ⟨f0, f1, f2, ff⟩ := hf2
    have HPost := hide hpost
    clear hpost h2 u0 u1 u2 u3 u4 hsl1 HIns HCS HNm HNm'
    go_wp2_with fail
    refine bodyPost_ret (v := .agg #[.int .i64 x, .int .i64 y, .int .i64 z]) (by simp [results, Tryd.results124, go_sem, f0, f1, f2]) rfl ?_
    rw [HR.out]
    exact HPost.out
end Go.Proofs.YtmmflekajbeamaaDoor
