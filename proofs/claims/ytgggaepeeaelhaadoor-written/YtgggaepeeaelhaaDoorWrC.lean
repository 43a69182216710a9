/-
  THE LAW Written: an instruction spelt out (spelt).
-/
import Derived.Test.YtgggaepeeaelhaaDoorWrB
import Derived.Test.YtgggaepeeaelhaaDoorAsH
namespace Go.Proofs.YtgggaepeeaelhaaDoor
open Go.RowKit

def opN (v : Nat) : Nat := v / 16777216 % 12
def aN (v : Nat) : Nat := v / 1048576 % 8
def bN (v : Nat) : Nat := v / 65536 % 8
def cN (v : Nat) : Nat := v / 4096 % 8
def kN (v : Nat) : Nat := v % 4096
def rT (a : Nat) : List UInt8 := 114 :: dec a
def its (v : Nat) : List (List UInt8 × List UInt8) :=
  match opN v with
  | 0 => []
  | 1 => [([32], rT (aN v)), ([32, 32], dec (kN v))]
  | 2 | 3 | 4 | 5 => [([32], rT (aN v)), ([9], rT (bN v)), ([32], rT (cN v))]
  | 6 | 7 | 8 => [([32], rT (aN v)), ([9], rT (bN v)), ([32, 32], dec (kN v))]
  | 9 => [([32, 32], dec (kN v))]
  | 10 => [([32], rT (aN v))]
  | _ => [([32], dec v)]
def spT (v : Nat) : List UInt8 := rowNm (opN v) ++ (its v).flatMap fun p => p.1 ++ p.2
def spW (v : Nat) : Nat :=
  match opN v with
  | 0 => 0
  | 1 => opN v * 16777216 + aN v * 1048576 + kN v
  | 2 | 3 | 4 | 5 => opN v * 16777216 + aN v * 1048576 + bN v * 65536 + cN v * 4096
  | 6 | 7 | 8 => opN v * 16777216 + aN v * 1048576 + bN v * 65536 + kN v
  | 9 => opN v * 16777216 + kN v
  | 10 => opN v * 16777216 + aN v * 1048576
  | _ => v

set_option maxRecDepth 100000 in
set_option maxHeartbeats 2000000 in
theorem spelt_any (v : Nat) (w : World) (hv : v < 4294967296) :
    Calls Tryd.prog 16 #[.int .i64 v] w fun e' w' => e' = .returned (.tuple #[.string (bya (spT v)), .int .i64 (spW v : Int)]) ∧ Below w.heap.size w w' := by
  have e0 : (v : Int) / 16777216 % 12 = (opN v : Int) := by unfold opN; omega
  have e1 : (v : Int) / 1048576 % 8 = (aN v : Int) := by unfold aN; omega
  have e2 : (v : Int) / 65536 % 8 = (bN v : Int) := by unfold bN; omega
  have e3 : (v : Int) / 4096 % 8 = (cN v : Int) := by unfold cN; omega
  have e4 : (v : Int) % 4096 = (kN v : Int) := by unfold kN; omega
  have b0 : opN v < 12 := by unfold opN; omega
  have b1 : aN v < 8 := by unfold aN; omega
  have b2 : bN v < 8 := by unfold bN; omega
  have b3 : cN v < 8 := by unfold cN; omega
  have b4 : kN v < 4096 := by unfold kN; omega
  have HA := hide (fun w' => digits_any (aN v) w' (by omega))
  have HB := hide (fun w' => digits_any (bN v) w' (by omega))
  have HC := hide (fun w' => digits_any (cN v) w' (by omega))
  have HK := hide (fun w' => digits_any (kN v) w' (by omega))
  have HV := hide (fun w' => digits_any v w' (by omega))
  have z1 : (bya (dec (aN v))).size ≤ 10 := by rw [bya_size]; exact (dec_len _ (by omega)).2
  have z2 : (bya (dec (bN v))).size ≤ 10 := by rw [bya_size]; exact (dec_len _ (by omega)).2
  have z3 : (bya (dec (cN v))).size ≤ 10 := by rw [bya_size]; exact (dec_len _ (by omega)).2
  have z4 : (bya (dec (kN v))).size ≤ 10 := by rw [bya_size]; exact (dec_len _ (by omega)).2
  have z5 : (bya (dec v)).size ≤ 10 := by rw [bya_size]; exact (dec_len _ (by omega)).2
  have q1 : (⟨#[32, 114]⟩ : ByteArray) = bya [32, 114] := rfl
  have q2 : (⟨#[9, 114]⟩ : ByteArray) = bya [9, 114] := rfl
  have q3 : (⟨#[32, 32]⟩ : ByteArray) = bya [32, 32] := rfl
  have q4 : (⟨#[119, 111, 114, 100, 32]⟩ : ByteArray) = bya [119, 111, 114, 100, 32] := rfl
  have HF : Hid (∀ o, opN v = o → bya (spT v) = (match o with
      | 0 => bya (rowNm o)
      | 1 => bya (rowNm o) ++ ((⟨#[32, 114]⟩ : ByteArray) ++ bya (dec (aN v))) ++ ((⟨#[32, 32]⟩ : ByteArray) ++ bya (dec (kN v)))
      | 2 | 3 | 4 | 5 => bya (rowNm o) ++ ((⟨#[32, 114]⟩ : ByteArray) ++ bya (dec (aN v))) ++ ((⟨#[9, 114]⟩ : ByteArray) ++ bya (dec (bN v))) ++ ((⟨#[32, 114]⟩ : ByteArray) ++ bya (dec (cN v)))
      | 6 | 7 | 8 => bya (rowNm o) ++ ((⟨#[32, 114]⟩ : ByteArray) ++ bya (dec (aN v))) ++ ((⟨#[9, 114]⟩ : ByteArray) ++ bya (dec (bN v))) ++ ((⟨#[32, 32]⟩ : ByteArray) ++ bya (dec (kN v)))
      | 9 => bya (rowNm o) ++ ((⟨#[32, 32]⟩ : ByteArray) ++ bya (dec (kN v)))
      | 10 => bya (rowNm o) ++ ((⟨#[32, 114]⟩ : ByteArray) ++ bya (dec (aN v)))
      | _ => (⟨#[119, 111, 114, 100, 32]⟩ : ByteArray) ++ bya (dec v))) := fun o ho => by
    have ho2 : o < 12 := by omega
    unfold spT its rT
    rw [ho, q1, q2, q3, q4]
    match o, ho2 with
    | 0, _ | 1, _ | 2, _ | 3, _ | 4, _ | 5, _ | 6, _ | 7, _ | 8, _ | 9, _ | 10, _ | 11, _ => simp [bya_app, List.flatMap, rowNm]
  clear q1 q2 q3 q4
  have HG : Hid (∀ o, opN v = o → spW v = (match o with
      | 0 => 0
      | 1 => o * 16777216 + aN v * 1048576 + kN v
      | 2 | 3 | 4 | 5 => o * 16777216 + aN v * 1048576 + bN v * 65536 + cN v * 4096
      | 6 | 7 | 8 => o * 16777216 + aN v * 1048576 + bN v * 65536 + kN v
      | 9 => o * 16777216 + kN v
      | 10 => o * 16777216 + aN v * 1048576
      | _ => v)) := fun o ho => by
    unfold spW
    rw [ho]
  generalize bya (spT v) = T at *
  generalize spW v = W at *
  generalize opN v = op at *
  generalize aN v = a at *
  generalize bN v = b at *
  generalize cN v = c at *
  generalize kN v = k at *
  generalize bya (dec a) = A at *
  generalize bya (dec b) = B at *
  generalize bya (dec c) = C at *
  generalize bya (dec k) = K at *
  generalize bya (dec v) = V at *
  have y1 : ((⟨#[32, 114]⟩ : ByteArray) ++ A).size ≤ 12 := by rw [ByteArray.size_append]; show 2 + _ ≤ 12; omega
  have y2 : ((⟨#[9, 114]⟩ : ByteArray) ++ B).size ≤ 12 := by rw [ByteArray.size_append]; show 2 + _ ≤ 12; omega
  have y3 : ((⟨#[32, 114]⟩ : ByteArray) ++ C).size ≤ 12 := by rw [ByteArray.size_append]; show 2 + _ ≤ 12; omega
  have y4 : ((⟨#[32, 32]⟩ : ByteArray) ++ K).size ≤ 12 := by rw [ByteArray.size_append]; show 2 + _ ≤ 12; omega
  have HF' := hide (HF.out op rfl)
  have HG' := hide (HG.out op rfl)
  clear HF HG
  go_enter Tryd.func16, Tryd.ntmps16
  go_wp2_with fail
  simp only [e0, e1, e2, e3, e4]
  clear e0 e1 e2 e3 e4
  refine (unhide HA _).mono ?_
  rintro e w1 ⟨rfl, hb1⟩
  have HB1 := hide hb1
  clear hb1 HA
  go_wp2_with fail
  refine (unhide HB _).mono ?_
  rintro e w2 ⟨rfl, hb2⟩
  have HB2 := hide (HB1.out.trans (hb2.mono HB1.out.size))
  clear hb2 HB1 HB
  go_wp2_with fail
  refine (unhide HC _).mono ?_
  rintro e w3 ⟨rfl, hb3⟩
  have HB3 := hide (HB2.out.trans (hb3.mono HB2.out.size))
  clear hb3 HB2 HC
  go_wp2_with fail
  refine (unhide HK _).mono ?_
  rintro e w4 ⟨rfl, hb4⟩
  have HB4 := hide (HB3.out.trans (hb4.mono HB3.out.size))
  clear hb4 HB3 HK
  have nm : ∀ j u, #[Value.string ⟨#[104, 97, 108, 116]⟩, .string ⟨#[115, 101, 116]⟩, .string ⟨#[97, 100, 100]⟩, .string ⟨#[115, 117, 98]⟩, .string ⟨#[120, 111, 114]⟩, .string ⟨#[109, 117, 108]⟩][j]? = some u → w4.cell? ⟨w.heap.size, j, none⟩ = some u := fun j u hu => by
    rw [below_cell' HB4.out _ _ (by rw [size_alloc1, size_alloc1]; omega), World.cell?_alloc_past _ _ _ (by rw [size_alloc1]; omega)]
    exact cell_new w _ _ j u hu
  have mo : ∀ j u, #[Value.string ⟨#[108, 111, 97, 100]⟩, .string ⟨#[115, 116, 111, 114, 101]⟩, .string ⟨#[115, 97, 109, 101]⟩, .string ⟨#[106, 117, 109, 112]⟩, .string ⟨#[116, 117, 114, 110]⟩][j]? = some u → w4.cell? ⟨w.heap.size + 1, j, none⟩ = some u := fun j u hu => by
    rw [below_cell' HB4.out _ _ (by rw [size_alloc1, size_alloc1]; omega)]
    have := cell_new (w.alloc (.cells #[Value.string ⟨#[104, 97, 108, 116]⟩, .string ⟨#[115, 101, 116]⟩, .string ⟨#[97, 100, 100]⟩, .string ⟨#[115, 117, 98]⟩, .string ⟨#[120, 111, 114]⟩, .string ⟨#[109, 117, 108]⟩] 87)) #[Value.string ⟨#[108, 111, 97, 100]⟩, .string ⟨#[115, 116, 111, 114, 101]⟩, .string ⟨#[115, 97, 109, 101]⟩, .string ⟨#[106, 117, 109, 112]⟩, .string ⟨#[116, 117, 114, 110]⟩] 88 j u hu
    rw [size_alloc1] at this
    exact this
  have HBw : Hid (Below w.heap.size w w4) := (((Below.refl _ _).alloc (Nat.le_refl _) _).alloc (by rw [size_alloc1]; omega) _).trans (HB4.out.mono (by rw [size_alloc1, size_alloc1]; omega))
  have hz4 := HB4.out.size
  rw [size_alloc1, size_alloc1] at hz4
  clear HB4
  have n0 := nm 0 _ rfl; have n1 := nm 1 _ rfl; have n2 := nm 2 _ rfl; have n3 := nm 3 _ rfl; have n4 := nm 4 _ rfl; have n5 := nm 5 _ rfl
  have m0 := mo 0 _ rfl; have m1 := mo 1 _ rfl; have m2 := mo 2 _ rfl; have m3 := mo 3 _ rfl; have m4 := mo 4 _ rfl
  clear nm mo
  have hop : op = 0 ∨ op = 1 ∨ op = 2 ∨ op = 3 ∨ op = 4 ∨ op = 5 ∨ op = 6 ∨ op = 7 ∨ op = 8 ∨ op = 9 ∨ op = 10 ∨ op = 11 := by omega
  clear b0
  rcases hop with rfl | rfl | rfl | rfl | rfl | rfl | rfl | rfl | rfl | rfl | rfl | rfl
  · have HT : T = ⟨#[104, 97, 108, 116]⟩ := HF'.out
    have HW : W = 0 := HG'.out
    go_wp2_with fail
    go_ret2
    rw [HT, HW]
    exact ⟨by go_num, HBw.out⟩
  · have HT : T = ⟨#[115, 101, 116]⟩ ++ (⟨#[32, 114]⟩ ++ A) ++ (⟨#[32, 32]⟩ ++ K) := HF'.out
    have HW : W = 1 * 16777216 + a * 1048576 + k := HG'.out
    go_wp2_with fail
    go_ret2
    rw [HT, HW]
    exact ⟨by go_num, HBw.out⟩
  · have HT : T = ⟨#[97, 100, 100]⟩ ++ (⟨#[32, 114]⟩ ++ A) ++ (⟨#[9, 114]⟩ ++ B) ++ (⟨#[32, 114]⟩ ++ C) := HF'.out
    have HW : W = 2 * 16777216 + a * 1048576 + b * 65536 + c * 4096 := HG'.out
    go_wp2_with fail
    go_ret2
    rw [HT, HW]
    exact ⟨by go_num, HBw.out⟩
  · have HT : T = ⟨#[115, 117, 98]⟩ ++ (⟨#[32, 114]⟩ ++ A) ++ (⟨#[9, 114]⟩ ++ B) ++ (⟨#[32, 114]⟩ ++ C) := HF'.out
    have HW : W = 3 * 16777216 + a * 1048576 + b * 65536 + c * 4096 := HG'.out
    go_wp2_with fail
    go_ret2
    rw [HT, HW]
    exact ⟨by go_num, HBw.out⟩
  · have HT : T = ⟨#[120, 111, 114]⟩ ++ (⟨#[32, 114]⟩ ++ A) ++ (⟨#[9, 114]⟩ ++ B) ++ (⟨#[32, 114]⟩ ++ C) := HF'.out
    have HW : W = 4 * 16777216 + a * 1048576 + b * 65536 + c * 4096 := HG'.out
    go_wp2_with fail
    go_ret2
    rw [HT, HW]
    exact ⟨by go_num, HBw.out⟩
  · have HT : T = ⟨#[109, 117, 108]⟩ ++ (⟨#[32, 114]⟩ ++ A) ++ (⟨#[9, 114]⟩ ++ B) ++ (⟨#[32, 114]⟩ ++ C) := HF'.out
    have HW : W = 5 * 16777216 + a * 1048576 + b * 65536 + c * 4096 := HG'.out
    go_wp2_with fail
    go_ret2
    rw [HT, HW]
    exact ⟨by go_num, HBw.out⟩
  · have HT : T = ⟨#[108, 111, 97, 100]⟩ ++ (⟨#[32, 114]⟩ ++ A) ++ (⟨#[9, 114]⟩ ++ B) ++ (⟨#[32, 32]⟩ ++ K) := HF'.out
    have HW : W = 6 * 16777216 + a * 1048576 + b * 65536 + k := HG'.out
    go_wp2_with fail
    go_ret2
    rw [HT, HW]
    exact ⟨by go_num, HBw.out⟩
  · have HT : T = ⟨#[115, 116, 111, 114, 101]⟩ ++ (⟨#[32, 114]⟩ ++ A) ++ (⟨#[9, 114]⟩ ++ B) ++ (⟨#[32, 32]⟩ ++ K) := HF'.out
    have HW : W = 7 * 16777216 + a * 1048576 + b * 65536 + k := HG'.out
    go_wp2_with fail
    go_ret2
    rw [HT, HW]
    exact ⟨by go_num, HBw.out⟩
  · have HT : T = ⟨#[115, 97, 109, 101]⟩ ++ (⟨#[32, 114]⟩ ++ A) ++ (⟨#[9, 114]⟩ ++ B) ++ (⟨#[32, 32]⟩ ++ K) := HF'.out
    have HW : W = 8 * 16777216 + a * 1048576 + b * 65536 + k := HG'.out
    go_wp2_with fail
    go_ret2
    rw [HT, HW]
    exact ⟨by go_num, HBw.out⟩
  · have HT : T = ⟨#[106, 117, 109, 112]⟩ ++ (⟨#[32, 32]⟩ ++ K) := HF'.out
    have HW : W = 9 * 16777216 + k := HG'.out
    go_wp2_with fail
    go_ret2
    rw [HT, HW]
    exact ⟨by go_num, HBw.out⟩
  · have HT : T = ⟨#[116, 117, 114, 110]⟩ ++ (⟨#[32, 114]⟩ ++ A) := HF'.out
    have HW : W = 10 * 16777216 + a * 1048576 := HG'.out
    go_wp2_with fail
    go_ret2
    rw [HT, HW]
    exact ⟨by go_num, HBw.out⟩
  · have HT : T = ⟨#[119, 111, 114, 100, 32]⟩ ++ V := HF'.out
    have HW : W = v := HG'.out
    go_wp2_with fail
    refine (unhide HV _).mono ?_
    rintro e w5 ⟨rfl, hb5⟩
    have HB5 := hide (HBw.out.trans (hb5.mono HBw.out.size))
    clear hb5 HBw HV
    go_wp2_with fail
    go_ret2
    rw [HT, HW]
    exact ⟨by go_num, HB5.out⟩
end Go.Proofs.YtgggaepeeaelhaaDoor
