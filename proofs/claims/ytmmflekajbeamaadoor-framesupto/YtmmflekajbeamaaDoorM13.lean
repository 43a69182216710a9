/-
  Plans: whether a put may stand in a plan (isPut).
  Plans: the puts of a plan's text (plans.Puts).
  Plans, the document's answer: numbers as texts; expressions as texts (Number, constant, joined, loaded, begin).
-/
import Derived.Test.YtmmflekajbeamaaDoorM12
import Derived.Test.YtmmflekajbeamaaDoorM04
namespace Go.Proofs.YtmmflekajbeamaaDoor
open Go.RowKit

/-- A put's numbers, as ints. -/
def okPutI (kind d a b k : Int) : Bool := decide (d < 16 ∧ a < 16 ∧ b < 16 ∧ ((kind = 1 ∧ a = 0 ∧ b = 0) ∨ (2 ≤ kind ∧ kind ≤ 5 ∧ k = 0) ∨ (kind = 6 ∧ b = 0 ∧ k ≤ 4095) ∨ (kind = 7 ∧ b = 0 ∧ k = 0)))
theorem okPutI_eq (p : PutN) : okPutI p.kind p.d p.a p.b p.k = @decide (okPut p) (okDec p) := by
  unfold okPutI
  rw [decide_eq_decide]
  unfold okPut
  omega
set_option maxRecDepth 100000 in
set_option maxHeartbeats 4000000 in
theorem isPut_any (kind d a b k : Int) (w : World) :
    Calls Tryd.prog 106 #[.agg #[.int .i64 kind, .int .i64 d, .int .i64 a, .int .i64 b, .int .i64 k]] w fun e' w' => e' = .returned (.bool (okPutI kind d a b k)) ∧ Below w.heap.size w w' := by
  have HE : ∀ x : Bool, x = okPutI kind d a b k → (Ending.returned (.bool x) = .returned (.bool (okPutI kind d a b k)) ∧ Below w.heap.size w (w.alloc (.cells #[.int .i64 kind, .int .i64 d, .int .i64 a, .int .i64 b, .int .i64 k] 59))) := fun _ h => ⟨ret_bool h, below_alloc _⟩
  have HE := hide HE
  have HA := hide (fun w' => isArith_any kind w')
  by_cases h1 : d < 16 ∧ a < 16 ∧ b < 16
  · obtain ⟨hd, ha, hb⟩ := h1
    by_cases hk1 : kind = 1
    · subst hk1
      by_cases ha0 : a = 0
      · by_cases hb0 : b = 0
        · subst ha0 hb0
          go_enter Tryd.func106, Tryd.ntmps106
          go_wp2_with fail
          go_ret
          exact HE.out _ (by simp [okPutI]; omega)
        · have hb0' : (b == 0) = false := by simpa using hb0
          subst ha0
          go_enter Tryd.func106, Tryd.ntmps106
          go_wp2_with fail
          go_ret
          exact HE.out _ (by simp [okPutI]; omega)
      · have ha0' : (a == 0) = false := by simpa using ha0
        go_enter Tryd.func106, Tryd.ntmps106
        go_wp2_with fail
        go_ret
        exact HE.out _ (by simp [okPutI]; omega)
    · have hk1' : (kind == 1) = false := by simpa using hk1
      by_cases har : 2 ≤ kind ∧ kind ≤ 5
      · have hq : arB kind = true := by unfold arB; simpa using har
        have HA' : Hid (∀ w', Calls Tryd.prog 136 #[.int .i64 kind] w' fun e' w'' => e' = .returned (.bool true) ∧ w'' = w') := fun w' => by have := HA.out w'; rw [hq] at this; exact this
        go_enter Tryd.func106, Tryd.ntmps106
        go_wp2_with fail
        refine (unhide HA' _).mono ?_
        rintro e w' ⟨rfl, hw⟩
        obtain rfl := hw.symm
        go_wp2_with fail
        go_ret
        refine HE.out _ ?_
        by_cases hk0 : k = 0
        · subst hk0; simp [okPutI]; omega
        · have : okPutI kind d a b k = false := by unfold okPutI; rw [decide_eq_false_iff_not]; omega
          rw [this]; simpa using hk0
      · have hq : arB kind = false := by unfold arB; rw [decide_eq_false_iff_not]; exact har
        have HA' : Hid (∀ w', Calls Tryd.prog 136 #[.int .i64 kind] w' fun e' w'' => e' = .returned (.bool false) ∧ w'' = w') := fun w' => by have := HA.out w'; rw [hq] at this; exact this
        by_cases hk6 : kind = 6
        · subst hk6
          clear har hk1 hq
          by_cases hb0 : b = 0
          · subst hb0
            go_enter Tryd.func106, Tryd.ntmps106
            go_wp2_with fail
            refine (unhide HA' _).mono ?_
            rintro e w' ⟨rfl, hw⟩
            obtain rfl := hw.symm
            go_wp2_with fail
            go_ret
            refine HE.out _ ?_
            unfold okPutI
            rw [decide_eq_decide]
            omega
          · have hb0' : (b == 0) = false := by simpa using hb0
            go_enter Tryd.func106, Tryd.ntmps106
            go_wp2_with fail
            refine (unhide HA' _).mono ?_
            rintro e w' ⟨rfl, hw⟩
            obtain rfl := hw.symm
            go_wp2_with fail
            go_ret
            exact HE.out _ (by simp [okPutI]; omega)
        · have hk6' : (kind == 6) = false := by simpa using hk6
          by_cases hk7 : kind = 7
          · subst hk7
            clear har hk1 hq hk6
            by_cases hb0 : b = 0
            · subst hb0
              go_enter Tryd.func106, Tryd.ntmps106
              go_wp2_with fail
              refine (unhide HA' _).mono ?_
              rintro e w' ⟨rfl, hw⟩
              obtain rfl := hw.symm
              go_wp2_with fail
              go_ret
              refine HE.out _ ?_
              by_cases hk0 : k = 0
              · subst hk0; simp [okPutI]; omega
              · simp [okPutI, hk0]
            · have hb0' : (b == 0) = false := by simpa using hb0
              go_enter Tryd.func106, Tryd.ntmps106
              go_wp2_with fail
              refine (unhide HA' _).mono ?_
              rintro e w' ⟨rfl, hw⟩
              obtain rfl := hw.symm
              go_wp2_with fail
              go_ret
              exact HE.out _ (by simp [okPutI]; omega)
          · have hk7' : (kind == 7) = false := by simpa using hk7
            go_enter Tryd.func106, Tryd.ntmps106
            go_wp2_with fail
            refine (unhide HA' _).mono ?_
            rintro e w' ⟨rfl, hw⟩
            obtain rfl := hw.symm
            go_wp2_with fail
            go_ret
            exact HE.out _ (by simp [okPutI]; omega)
  · have hf : okPutI kind d a b k = false := by unfold okPutI; rw [decide_eq_false_iff_not]; omega
    have HF := hide hf
    by_cases hd : 16 ≤ d
    · go_enter Tryd.func106, Tryd.ntmps106
      go_wp2_with fail
      go_ret
      exact HE.out _ HF.out.symm
    · have hd' : decide (16 ≤ d) = false := by simpa using hd
      by_cases ha : 16 ≤ a
      · go_enter Tryd.func106, Tryd.ntmps106
        go_wp2_with fail
        go_ret
        exact HE.out _ HF.out.symm
      · have ha' : decide (16 ≤ a) = false := by simpa using ha
        have hb : 16 ≤ b := by omega
        go_enter Tryd.func106, Tryd.ntmps106
        go_wp2_with fail
        go_ret
        exact HE.out _ HF.out.symm
end Go.Proofs.YtmmflekajbeamaaDoor

namespace Go.Proofs.YtmmflekajbeamaaDoor
open Go.RowKit

def putCs (l : List PutN) : List Value := l.flatMap fun p => (putV p).toList
theorem putCs_snoc (l : List PutN) (p : PutN) : putCs (l ++ [p]) = putCs l ++ (putV p).toList := by simp [putCs]
theorem infoPut : ∃ i, Tryd.prog.info? 59 = some i ∧ i.zero = some (.agg #[.int .i64 0, .int .i64 0, .int .i64 0, .int .i64 0, .int .i64 0]) ∧ i.size = 5 ∧ i.bytes = 40 := by
  have h : (Tryd.prog.info? 59).map (fun i => (i.zero, i.size, i.bytes)) = some (some (.agg #[.int .i64 0, .int .i64 0, .int .i64 0, .int .i64 0, .int .i64 0]), 5, 40) := by kernel_rfl
  cases hq : Tryd.prog.info? 59 with
  | none => rw [hq] at h; cases h
  | some i =>
    rw [hq] at h
    simp only [Option.map_some, Option.some.injEq, Prod.mk.injEq] at h
    exact ⟨i, rfl, h.1, h.2.1, h.2.2⟩
theorem putAt_extr (s : ByteArray) (i : Nat) (hi : i + 8 ≤ s.size) : putAt (s.extract i (i + 8)) 0 = putAt s i := by
  have e : ∀ j, j < 8 → bt (s.extract i (i + 8)) j = bt s (i + j) := fun j hj => extr_get s i 8 j hi hj
  have e4 := extr_beN s i 8 4 hi 4 (by decide)
  have h0 := e 0 (by decide); have h1 := e 1 (by decide); have h2 := e 2 (by decide); have h3 := e 3 (by decide)
  unfold bt at h0 h1 h2 h3
  unfold putAt
  simp only [Nat.zero_add, Nat.add_zero] at *
  rw [h0, h1, h2, h3, e4]
/-- What a reading of puts leaves. -/
def PutsPost (s : ByteArray) (w : World) (e' : Ending) (w' : World) : Prop :=
  Below w.heap.size w w' ∧ ((putsOK s ∧ ∃ v, e' = .returned (.tuple #[v, .int .i64 0]) ∧ w'.ownsRow w.heap.size 59 5 v (s.size / 8) (putCs (putL s (s.size / 8)))) ∨ (¬ putsOK s ∧ e' = .returned (.tuple #[.slice none 0 0, .int .i64 11])))

set_option maxRecDepth 100000 in
set_option maxHeartbeats 1000000 in
theorem plansPuts_any (s : ByteArray) (w : World) (hs : s.size ≤ maxLen) :
    Calls Tryd.prog 62 #[.string s] w (PutsPost s w) := by
  obtain ⟨inf, hinf, hz, hsz1, hby⟩ := infoPut
  have HInf := hide hinf; have HZ := hide hz; have HSz := hide hsz1; have HBy := hide hby
  clear hinf hz hsz1 hby
  unfold maxLen at hs
  by_cases h8 : s.size % 8 = 0
  · have h8' : (s.size : Int) % 8 = 0 := by omega
    by_cases h80 : s.size ≤ 80
    · have h80' : decide ((80 : Int) < (s.size : Int)) = false := by simp; omega
      go_enter Tryd.func62, Tryd.ntmps62
      go_wp2_with fail
      go_loopw [4, 5] (fun v i wr => ∃ k j : Nat, 8 * k ≤ s.size ∧ j = 8 * k ∧ i = .int .i64 j ∧ wr.ownsRow w.heap.size 59 5 v k (putCs (putL s k)) ∧ Below w.heap.size w wr ∧ Hid (∀ q, q < k → okPut (putAt s (8 * q)))) (fun _ i _ => s.size - (intOf i).toNat)
      case atStart => exact ⟨0, 0, Nat.zero_le _, rfl, rfl, World.ownsRow_nil _ _ _ _, Below.refl _ _, fun q hq => by omega⟩
      case round =>
        obtain ⟨k, j, hk, hj, rfl, hown, hbl, HG⟩ := hrel
        obtain ⟨va, vc, hv⟩ := owns_len hown
        subst hv
        have HO := hide hown; have HBl := hide hbl; have HJ := hide hj
        have hwz := hbl.size
        by_cases hlt : j < s.size
        · have hlt' : (j : Int) < (s.size : Int) := by omega
          have hj8 : j + 8 ≤ s.size := by omega
          have hj8' : (j : Int) + 8 ≤ (s.size : Int) := by omega
          have hkk : k ≤ 10 := by omega
          have hr := fun w' => readPut_any (s.extract j (j + 8)) w' (by rw [ByteArray.size_extract]; omega)
          rw [putAt_extr s j hj8] at hr
          have hi := fun w' => isPut_any (putAt s j).kind (putAt s j).d (putAt s j).a (putAt s j).b (putAt s j).k w'
          rw [okPutI_eq] at hi
          simp only [putV] at hr
          have HR := hide hr
          clear hr hown hbl hj h8 h8' hk
          by_cases hok : okPut (putAt s j)
          · rw [@decide_eq_true _ (okDec _) hok] at hi
            have HI := hide hi
            clear hi
            go_wp2_with fail
            refine (unhide HR _).mono ?_
            rintro e w1 ⟨rfl, hb1⟩
            have HB1 := hide hb1
            have hz1 := hb1.size
            clear hb1
            go_wp2_with fail
            refine (unhide HI _).mono ?_
            rintro e w2 ⟨rfl, hb2⟩
            have HB2 := hide hb2
            have hz2 := hb2.size
            rw [size_alloc1] at hz2
            have x0 : w2.cell? ⟨w1.heap.size, 0, none⟩ = some (.int .i64 (putAt s j).kind) := by rw [below_cell' hb2 _ _ (by rw [size_alloc1]; omega), World.cell?_alloc_at (hn := rfl)]; rfl
            have x1 : w2.cell? ⟨w1.heap.size, 1, none⟩ = some (.int .i64 (putAt s j).d) := by rw [below_cell' hb2 _ _ (by rw [size_alloc1]; omega), World.cell?_alloc_at (hn := rfl)]; rfl
            have x2 : w2.cell? ⟨w1.heap.size, 2, none⟩ = some (.int .i64 (putAt s j).a) := by rw [below_cell' hb2 _ _ (by rw [size_alloc1]; omega), World.cell?_alloc_at (hn := rfl)]; rfl
            have x3 : w2.cell? ⟨w1.heap.size, 3, none⟩ = some (.int .i64 (putAt s j).b) := by rw [below_cell' hb2 _ _ (by rw [size_alloc1]; omega), World.cell?_alloc_at (hn := rfl)]; rfl
            have x4 : w2.cell? ⟨w1.heap.size, 4, none⟩ = some (.int .i64 (putAt s j).k) := by rw [below_cell' hb2 _ _ (by rw [size_alloc1]; omega), World.cell?_alloc_at (hn := rfl)]; rfl
            clear hb2
            have HO2 := hide (own_grow (own_grow HO.out HB1.out) (((Below.refl _ _).alloc (Nat.le_refl _) _).trans (HB2.out.mono (by rw [size_alloc1]; omega))))
            have HBw : Hid (Below w.heap.size w w2) := ((HBl.out.trans (HB1.out.mono hwz)).alloc (by omega) _).trans (HB2.out.mono (by rw [size_alloc1]; omega))
            have HS : Hid (putCs (putL s (k + 1)) = putCs (putL s k) ++ [.int .i64 (putAt s j).kind, .int .i64 (putAt s j).d, .int .i64 (putAt s j).a, .int .i64 (putAt s j).b, .int .i64 (putAt s j).k]) := by
              unfold Hid
              rw [putL_succ, putCs_snoc, ← HJ.out]
              rfl
            have HK : Hid (∀ q, q < k + 1 → okPut (putAt s (8 * q))) := fun q hq => by
              by_cases hqk : q = k
              · subst hqk; rw [← HJ.out]; exact hok
              · exact HG.out q (by omega)
            clear HR HI
            generalize putAt s j = p at *
            go_wp2_with (at_builtin; refine wpList_append_lies _ rfl _ _ 61 rfl w.heap.size 59 inf _ 5 40 Tryd.underlying61 HInf.out HZ.out HSz.out HBy.out rfl (by decide) (.slice va k vc) k (putCs (putL s k)) rfl (HO2.out.alloc _) ⟨w2.heap.size, 0, none⟩ 1 1 [.int .i64 p.kind, .int .i64 p.d, .int .i64 p.a, .int .i64 p.b, .int .i64 p.k] rfl rfl (World.news_of_block (_root_.Go.heap_alloc_new w2 _)) (fun u hu => by simp at hu; rcases hu with rfl | rfl | rfl | rfl | rfl <;> rfl) (by decide) (by unfold maxLen; omega) (by omega) (by rw [size_alloc1]; omega) (w2.heap.size + 1) (by rw [size_alloc1]) ?_; intro g2' cap2 w3 hown2 hgr2 hat2 hlt2; have HO3 := hide hown2; have HGr := hide hgr2; clear hown2 hgr2 hat2)
            refine ⟨⟨k + 1, j + 8, by have := HJ.out; omega, by have := HJ.out; omega, by go_num, ?_, ?_, HK⟩, by simp [intOf]; omega⟩
            · rw [HS.out]
              exact HO3.out
            · exact (HBw.out.alloc (by omega) _).grown HGr.out (by rw [size_alloc1]; omega) (fun q hq => (row_lt HO2.out q hq).1)
          · rw [@decide_eq_false _ (okDec _) hok] at hi
            have HI := hide hi
            have HN : Hid (¬ putsOK s) := fun h => hok (by have := h.2.2 k (by have := HJ.out; omega); rw [← HJ.out] at this; exact this)
            clear hi hok
            go_wp2_with fail
            refine (unhide HR _).mono ?_
            rintro e w1 ⟨rfl, hb1⟩
            have HB1 := hide hb1
            have hz1 := hb1.size
            clear hb1
            go_wp2_with fail
            refine (unhide HI _).mono ?_
            rintro e w2 ⟨rfl, hb2⟩
            have HB2 := hide hb2
            clear hb2
            go_wp2_with fail
            go_ret2
            exact ⟨((HBl.out.trans (HB1.out.mono hwz)).alloc (by omega) _).trans (HB2.out.mono (by rw [size_alloc1]; omega)), .inr ⟨HN.out, rfl⟩⟩
        · have hlt' : ¬ (j : Int) < (s.size : Int) := by omega
          have hkn : k = s.size / 8 := by omega
          have HOK : Hid (putsOK s) := ⟨h8, h80, fun q hq => HG.out q (by omega)⟩
          clear hown hbl hj hk
          go_wp2_with fail
          go_ret2
          rw [hkn] at HO
          exact ⟨HBl.out, .inl ⟨HOK.out, _, rfl, HO.out⟩⟩
    · have h80' : (80 : Int) < (s.size : Int) := by omega
      have HN : Hid (¬ putsOK s) := fun h => h80 h.2.1
      go_enter Tryd.func62, Tryd.ntmps62
      go_wp2_with fail
      go_ret2
      exact ⟨Below.refl _ _, .inr ⟨HN.out, rfl⟩⟩
  · have h8' : ((s.size : Int) % 8 == 0) = false := by simp; omega
    have HN : Hid (¬ putsOK s) := fun h => h8 h.1
    go_enter Tryd.func62, Tryd.ntmps62
    go_wp2_with fail
    go_ret2
    exact ⟨Below.refl _ _, .inr ⟨HN.out, rfl⟩⟩
end Go.Proofs.YtmmflekajbeamaaDoor

namespace Go.Proofs.YtmmflekajbeamaaDoor
open Go.RowKit

theorem byte_str (w : World) (q : Nat) : (convert 76 9 (.slice (some ⟨w.heap.size, 0, none⟩) 1 1)).run Tryd.prog (w.alloc (.cells #[.int .u8 ((q : Int) % 256)] 5)) = .ok (.string (bya [UInt8.ofNat (q % 256)])) (w.alloc (.cells #[.int .u8 ((q : Int) % 256)] 5)) := by
  refine run_convert_bytes_back _ _ _ 5 ⟨w.heap.size, 0, none⟩ 1 [UInt8.ofNat (q % 256)] Tryd.underlying76 Tryd.underlying5 Tryd.underlying9 (fun j hj => ?_)
  match j, hj with
  | 0, _ =>
    show (w.alloc _).cell? ⟨w.heap.size, 0, none⟩ = some (.int .u8 ((UInt8.ofNat (q % 256)).toNat : Int))
    rw [World.cell?_alloc_at (hn := rfl), UInt8.toNat_ofNat', Nat.mod_mod]
    simp
theorem numB_succ (k v : Nat) : bya [UInt8.ofNat (v / 256 ^ k % 256)] ++ bya (numB k v) = bya (numB (k + 1) v) := by rw [bya_app]; rfl

set_option maxRecDepth 100000 in
set_option maxHeartbeats 1000000 in
theorem number_ref (v n : Nat) (w : World) (hn : n ≤ 8) (hv : v < 9223372036854775808) :
    Calls Tryd.prog 94 #[.int .i64 (v : Int), .int .i64 (n : Int)] w fun e' w' => e' = .returned (.string (bya (numB n v))) ∧ Below w.heap.size w w' := by
  go_enter Tryd.func94, Tryd.ntmps94
  go_wp2_with fail
  go_loopw [0, 5, 6] (fun x s i wr => ∃ k : Nat, k ≤ n ∧ i = .int .i64 k ∧ s = .string (bya (numB k v)) ∧ x = .int .i64 ((v / 256 ^ k : Nat) : Int) ∧ Below w.heap.size w wr) (fun _ _ i _ => n - (intOf i).toNat)
  case atStart => exact ⟨0, Nat.zero_le _, rfl, rfl, by simp, Below.refl _ _⟩
  case round =>
    obtain ⟨k, hk, rfl, rfl, rfl, hbl⟩ := hrel
    have HBl := hide hbl
    have hwz := hbl.size
    by_cases hlt : k < n
    · have hlt' : (k : Int) < (n : Int) := by omega
      have hq : v / 256 ^ k < 9223372036854775808 := Nat.lt_of_le_of_lt (Nat.div_le_self _ _) hv
      have HE := hide (numB_succ k v)
      have HQ : Hid (v / 256 ^ (k + 1) = v / 256 ^ k / 256) := by unfold Hid; rw [Nat.pow_succ, Nat.div_div_eq_div_mul]
      have kc := byte_str wr (v / 256 ^ k)
      have z1 : (bya (numB k v)).size ≤ 8 := by rw [bya_size, numB_len]; omega
      have z2 : (bya [UInt8.ofNat (v / 256 ^ k % 256)]).size ≤ 8 := by rw [bya_size]; exact Nat.le_of_ble_eq_true rfl
      generalize bya (numB k v) = D1 at *
      generalize bya [UInt8.ofNat (v / 256 ^ k % 256)] = D2 at *
      generalize v / 256 ^ k = q at *
      clear hbl
      go_wp2_with fail
      refine ⟨⟨k + 1, by omega, by go_num, ?_, ?_, HBl.out.alloc hwz _⟩, by simp [intOf]; omega⟩
      · rw [HE.out]
      · rw [HQ.out]; go_num
    · have hlt' : ¬ (k : Int) < (n : Int) := by omega
      obtain rfl : k = n := by omega
      clear hbl
      go_wp2_with fail
      go_ret
      exact ⟨rfl, HBl.out⟩

set_option maxRecDepth 100000 in
set_option maxHeartbeats 1000000 in
theorem constant_ref (x : List UInt8) (w : World) (hx : 0 < x.length) (hl : x.length ≤ 100000) :
    Calls Tryd.prog 159 #[.string (bya x)] w fun e' w' => e' = .returned (.bool (isCon x)) ∧ w' = w := by
  have hz : (bya x).size = x.length := bya_size x
  have hE : ((bt (bya x) 0 : Int) == 35) = isCon x := by
    unfold isCon bt bya
    match x, hx with
    | c :: t, _ =>
      show (((c.toNat : Nat) : Int) == 35) = (c == 35)
      rw [Bool.eq_iff_iff, beq_iff_eq, beq_iff_eq, ← UInt8.toNat_inj]
      show _ ↔ c.toNat = 35
      omega
  have HE := hide hE
  have h0 : (0 : Int) < ((bya x).size : Int) := by omega
  have h0n : 0 < (bya x).size := by omega
  clear hE
  generalize bya x = D at *
  have hg := bt_get D 0 h0n
  go_enter Tryd.func159, Tryd.ntmps159
  go_wp2_with fail
  go_ret
  exact ⟨ret_bool HE.out, rfl⟩
theorem value_x (x : List UInt8) : beN (bya x) 1 4 = valX x := rfl

set_option maxRecDepth 100000 in
set_option maxHeartbeats 2000000 in
theorem joined_ref (op : Nat) (x y : List UInt8) (m : Nat) (w : World) (k2 : 2 ≤ op) (k5 : op ≤ 5) (hx : XS m x) (hy : XS m y) (hm : m ≤ 40000) :
    Calls Tryd.prog 129 #[.int .i64 (op : Int), .string (bya x), .string (bya y)] w fun e' w' => e' = .returned (.string (bya (jnS op x y))) ∧ Below w.heap.size w w' := by
  have hxl : 0 < x.length := by rcases hx.2 with ⟨v, _, rfl⟩ | ⟨_, h⟩; exact Nat.zero_lt_succ _; exact h
  have hyl : 0 < y.length := by rcases hy.2 with ⟨v, _, rfl⟩ | ⟨_, h⟩; exact Nat.zero_lt_succ _; exact h
  have hxm := hx.1; have hym := hy.1
  have HCx := hide (fun w' => constant_ref x w' hxl (by omega))
  have HCy := hide (fun w' => constant_ref y w' hyl (by omega))
  have z1 : (bya x).size ≤ 40000 := by rw [bya_size]; omega
  have z2 : (bya y).size ≤ 40000 := by rw [bya_size]; omega
  by_cases hc : isCon x = true ∧ isCon y = true
  · obtain ⟨cx, cy⟩ := hc
    obtain ⟨vx, hvx, ex⟩ : ∃ v, v < 4294967296 ∧ x = sCon v := by rcases hx.2 with h | ⟨h, _⟩; exact h; rw [cx] at h; cases h
    obtain ⟨vy, hvy, ey⟩ : ∃ v, v < 4294967296 ∧ y = sCon v := by rcases hy.2 with h | ⟨h, _⟩; exact h; rw [cy] at h; cases h
    have HV1 := hide (fun w' => value_any (bya x) 1 4 w' (by decide) (by rw [bya_size, ex, sCon_len]; decide) (by omega))
    have HV2 := hide (fun w' => value_any (bya y) 1 4 w' (by decide) (by rw [bya_size, ey, sCon_len]; decide) (by omega))
    have e1 : beN (bya x) 1 4 = vx := by rw [value_x, ex, valX_con _ hvx]
    have e2 : beN (bya y) 1 4 = vy := by rw [value_x, ey, valX_con _ hvy]
    rw [e1] at HV1
    rw [e2] at HV2
    have HW := hide (fun w' => works_any op vx vy w' (by omega) (by omega) (by omega) (by omega) (by omega) (by omega))
    have hwb := wk_bd op vx vy (by omega) (by omega) (by omega) (by omega)
    have HJ : Hid (bya (jnS op x y) = (⟨#[35]⟩ : ByteArray) ++ bya (numB 4 (wk op vx vy).toNat)) := by
      unfold Hid jnS
      rw [if_pos ⟨cx, cy⟩, ex, ey, valX_con _ hvx, valX_con _ hvy, show (⟨#[35]⟩ : ByteArray) = bya [35] from rfl, bya_app]
      rfl
    obtain ⟨c, hcc⟩ := Int.eq_ofNat_of_zero_le hwb.1
    rw [hcc] at HW HJ
    rw [Int.toNat_natCast] at HJ
    have HN := hide (fun w' => number_ref c 4 w' (by decide) (by omega))
    have z3 : (bya (numB 4 c)).size ≤ 4 := by rw [bya_size, numB_len]; decide
    rw [cx] at HCx
    rw [cy] at HCy
    generalize bya (numB 4 c) = D3 at *
    generalize bya x = D1 at *
    generalize bya y = D2 at *
    generalize bya (jnS op x y) = D at *
    clear ex ey e1 e2 hx hy hxm hym hxl hyl cx cy hwb hcc
    go_enter Tryd.func129, Tryd.ntmps129
    go_wp2_with fail
    refine (unhide HCx _).mono ?_
    rintro e w' ⟨rfl, hw⟩
    obtain rfl := hw.symm
    go_wp2_with fail
    refine (unhide HCy _).mono ?_
    rintro e w' ⟨rfl, hw⟩
    obtain rfl := hw.symm
    go_wp2_with fail
    refine (unhide HV1 _).mono ?_
    rintro e w' ⟨rfl, hw⟩
    obtain rfl := hw.symm
    go_wp2_with fail
    refine (unhide HV2 _).mono ?_
    rintro e w' ⟨rfl, hw⟩
    obtain rfl := hw.symm
    go_wp2_with fail
    refine (unhide HW _).mono ?_
    rintro e w' ⟨rfl, hw⟩
    obtain rfl := hw.symm
    go_wp2_with fail
    refine (unhide HN _).mono ?_
    rintro e w1 ⟨rfl, hb⟩
    have HB := hide hb
    clear hb
    go_wp2_with fail
    go_ret
    rw [HJ.out]
    exact ⟨rfl, HB.out⟩
  · have HJ : Hid (bya (jnS op x y) = (((⟨#[40]⟩ : ByteArray) ++ bya (numB 1 op)) ++ bya x) ++ bya y ++ (⟨#[41]⟩ : ByteArray)) := by
      unfold Hid jnS
      rw [if_neg hc, show (⟨#[40]⟩ : ByteArray) = bya [40] from rfl, show (⟨#[41]⟩ : ByteArray) = bya [41] from rfl, bya_app, bya_app, bya_app, bya_app]
      unfold sOp
      simp
    have HN := hide (fun w' => number_ref op 1 w' (by decide) (by omega))
    have z3 : (bya (numB 1 op)).size ≤ 4 := by rw [bya_size, numB_len]; decide
    have hcc : isCon x = false ∨ (isCon x = true ∧ isCon y = false) := by
      cases h1 : isCon x
      · exact .inl rfl
      · cases h2 : isCon y
        · exact .inr ⟨rfl, rfl⟩
        · exact absurd ⟨h1, h2⟩ hc
    generalize bya (numB 1 op) = D3 at *
    generalize bya x = D1 at *
    generalize bya y = D2 at *
    generalize bya (jnS op x y) = D at *
    clear hx hy hxm hym hxl hyl hc
    rcases hcc with h1 | ⟨h1, h2⟩
    · rw [h1] at HCx
      clear h1
      go_enter Tryd.func129, Tryd.ntmps129
      go_wp2_with fail
      refine (unhide HCx _).mono ?_
      rintro e w' ⟨rfl, hw⟩
      obtain rfl := hw.symm
      go_wp2_with fail
      refine (unhide HCy _).mono ?_
      rintro e w' ⟨rfl, hw⟩
      obtain rfl := hw.symm
      go_wp2_with fail
      refine (unhide HN _).mono ?_
      rintro e w1 ⟨rfl, hb⟩
      have HB := hide hb
      clear hb
      go_wp2_with fail
      go_ret
      rw [HJ.out]
      exact ⟨rfl, HB.out⟩
    · rw [h1] at HCx
      rw [h2] at HCy
      clear h1 h2
      go_enter Tryd.func129, Tryd.ntmps129
      go_wp2_with fail
      refine (unhide HCx _).mono ?_
      rintro e w' ⟨rfl, hw⟩
      obtain rfl := hw.symm
      go_wp2_with fail
      refine (unhide HCy _).mono ?_
      rintro e w' ⟨rfl, hw⟩
      obtain rfl := hw.symm
      go_wp2_with fail
      refine (unhide HN _).mono ?_
      rintro e w1 ⟨rfl, hb⟩
      have HB := hide hb
      clear hb
      go_wp2_with fail
      go_ret
      rw [HJ.out]
      exact ⟨rfl, HB.out⟩

set_option maxRecDepth 100000 in
set_option maxHeartbeats 2000000 in
theorem loaded_ref (x : List UInt8) (k m : Nat) (w : World) (hk : k ≤ 4095) (hx : XS m x) (hm : m ≤ 40000) :
    Calls Tryd.prog 128 #[.string (bya x), .int .i64 (k : Int)] w fun e' w' => e' = .returned (.string (bya (ldS x k))) ∧ Below w.heap.size w w' := by
  have hxl : 0 < x.length := by rcases hx.2 with ⟨v, _, rfl⟩ | ⟨_, h⟩; exact Nat.zero_lt_succ _; exact h
  have hxm := hx.1
  have HCx := hide (fun w' => constant_ref x w' hxl (by omega))
  have z1 : (bya x).size ≤ 40000 := by rw [bya_size]; omega
  by_cases hc : isCon x = true
  · obtain ⟨vx, hvx, ex⟩ : ∃ v, v < 4294967296 ∧ x = sCon v := by rcases hx.2 with h | ⟨h, _⟩; exact h; rw [hc] at h; cases h
    have HV1 := hide (fun w' => value_any (bya x) 1 4 w' (by decide) (by rw [bya_size, ex, sCon_len]; decide) (by omega))
    have e1 : beN (bya x) 1 4 = vx := by rw [value_x, ex, valX_con _ hvx]
    rw [e1] at HV1
    have HJ : Hid (bya (ldS x k) = (⟨#[91]⟩ : ByteArray) ++ ((⟨#[35]⟩ : ByteArray) ++ bya (numB 4 ((vx + k) % 128))) ++ bya (numB 2 0) ++ (⟨#[93]⟩ : ByteArray)) := by
      unfold Hid ldS
      rw [if_pos hc, ex, valX_con _ hvx, show (⟨#[91]⟩ : ByteArray) = bya [91] from rfl, show (⟨#[35]⟩ : ByteArray) = bya [35] from rfl, show (⟨#[93]⟩ : ByteArray) = bya [93] from rfl, bya_app, bya_app, bya_app, bya_app]
      unfold sLd sCon
      simp
    have e2 : ((vx : Int) + (k : Int)) % 128 = (((vx + k) % 128 : Nat) : Int) := by omega
    have HN1 := hide (fun w' => number_ref ((vx + k) % 128) 4 w' (by decide) (by omega))
    have HN2 : Hid (∀ w', Calls Tryd.prog 94 #[.int .i64 0, .int .i64 2] w' fun e' w'' => e' = .returned (.string (bya (numB 2 0))) ∧ Below w'.heap.size w' w'') := fun w' => number_ref 0 2 w' (by decide) (by omega)
    rw [← e2] at HN1
    have z3 : (bya (numB 4 ((vx + k) % 128))).size ≤ 4 := by rw [bya_size, numB_len]; decide
    have z4 : (bya (numB 2 0)).size ≤ 4 := by rw [bya_size, numB_len]; decide
    rw [hc] at HCx
    generalize bya (numB 4 ((vx + k) % 128)) = D3 at *
    generalize bya (numB 2 0) = D4 at *
    generalize bya x = D1 at *
    generalize bya (ldS x k) = D at *
    clear ex e1 e2 hx hxm hxl hc
    go_enter Tryd.func128, Tryd.ntmps128
    go_wp2_with fail
    refine (unhide HCx _).mono ?_
    rintro e w' ⟨rfl, hw⟩
    obtain rfl := hw.symm
    go_wp2_with fail
    refine (unhide HV1 _).mono ?_
    rintro e w' ⟨rfl, hw⟩
    obtain rfl := hw.symm
    go_wp2_with fail
    refine (unhide HN1 _).mono ?_
    rintro e w1 ⟨rfl, hb⟩
    have HB := hide hb
    have hz := hb.size
    clear hb
    go_wp2_with fail
    refine (unhide HN2 _).mono ?_
    rintro e w2 ⟨rfl, hb⟩
    have HB2 := hide (HB.out.trans (hb.mono hz))
    clear hb
    go_wp2_with fail
    go_ret
    rw [HJ.out]
    exact ⟨rfl, HB2.out⟩
  · have hcf : isCon x = false := by simpa using hc
    have HJ : Hid (bya (ldS x k) = (⟨#[91]⟩ : ByteArray) ++ bya x ++ bya (numB 2 k) ++ (⟨#[93]⟩ : ByteArray)) := by
      unfold Hid ldS
      rw [if_neg hc, show (⟨#[91]⟩ : ByteArray) = bya [91] from rfl, show (⟨#[93]⟩ : ByteArray) = bya [93] from rfl, bya_app, bya_app, bya_app]
      unfold sLd
      simp
    have HN2 := hide (fun w' => number_ref k 2 w' (by decide) (by omega))
    have z4 : (bya (numB 2 k)).size ≤ 4 := by rw [bya_size, numB_len]; decide
    rw [hcf] at HCx
    generalize bya (numB 2 k) = D4 at *
    generalize bya x = D1 at *
    generalize bya (ldS x k) = D at *
    clear hx hxm hxl hc hcf
    go_enter Tryd.func128, Tryd.ntmps128
    go_wp2_with fail
    refine (unhide HCx _).mono ?_
    rintro e w' ⟨rfl, hw⟩
    obtain rfl := hw.symm
    go_wp2_with fail
    refine (unhide HN2 _).mono ?_
    rintro e w2 ⟨rfl, hb⟩
    have HB2 := hide hb
    clear hb
    go_wp2_with fail
    go_ret
    rw [HJ.out]
    exact ⟨rfl, HB2.out⟩
end Go.Proofs.YtmmflekajbeamaaDoor
