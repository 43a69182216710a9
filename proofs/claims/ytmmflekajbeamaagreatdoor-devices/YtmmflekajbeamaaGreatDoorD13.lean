/-
  Plans: the puts of a plan's text (plans.Puts).
  Plans, the document's answer: numbers as texts; expressions as texts (Number, constant, joined, loaded, begin).
  An instruction is read (readInstruction).
-/
import Derived.Test.YtmmflekajbeamaaGreatDoorD12
import Derived.Test.YtmmflekajbeamaaGreatDoorD04
import Derived.Test.YtmmflekajbeamaaGreatDoorD11
namespace Go.Proofs.YtmmflekajbeamaaGreatDoor
open Go.RowKit

def putCs (l : List PutN) : List Value := l.flatMap fun p => (putV p).toList
theorem putCs_snoc (l : List PutN) (p : PutN) : putCs (l ++ [p]) = putCs l ++ (putV p).toList := by simp [putCs]
theorem infoPut : ∃ i, Tryz.prog.info? 123 = some i ∧ i.zero = some (.agg #[.int .i64 0, .int .i64 0, .int .i64 0, .int .i64 0, .int .i64 0]) ∧ i.size = 5 ∧ i.bytes = 40 := by
  have h : (Tryz.prog.info? 123).map (fun i => (i.zero, i.size, i.bytes)) = some (some (.agg #[.int .i64 0, .int .i64 0, .int .i64 0, .int .i64 0, .int .i64 0]), 5, 40) := by kernel_rfl
  cases hq : Tryz.prog.info? 123 with
  | none => rw [hq] at h; cases h
  | some i =>
    rw [hq] at h
    simp only [Option.map_some, Option.some.injEq, Prod.mk.injEq] at h
    exact ⟨i, rfl, h.1, h.2.1, h.2.2⟩
theorem putAt_extr (s : ByteArray) (i : Nat) (hi : i + 8 ≤ s.size) : putAt (s.extract i (i + 8)) 0 = putAt s i := by
  have e : ∀ j, j < 8 → bt (s.extract i (i + 8)) j = bt s (i + j) := fun j hj => extr_get s i 8 j hi hj
  have e4 := extr_beN s i 8 4 hi 4 (by decide)
  have h0 := e 0 (by decide); have h1 := e 1 (by decide); have h2 := e 2 (by decide); have h3 := e 3 (by decide)
  unfold bt at h0 h1 h2 h3
  unfold putAt
  simp only [Nat.zero_add, Nat.add_zero] at *
  rw [h0, h1, h2, h3, e4]
/-- What a reading of puts leaves. -/
def PutsPost (s : ByteArray) (w : World) (e' : Ending) (w' : World) : Prop :=
  Below w.heap.size w w' ∧ ((putsOK s ∧ ∃ v, e' = .returned (.tuple #[v, .int .i64 0]) ∧ w'.ownsRow w.heap.size 123 5 v (s.size / 8) (putCs (putL s (s.size / 8)))) ∨ (¬ putsOK s ∧ e' = .returned (.tuple #[.slice none 0 0, .int .i64 11])))

set_option maxRecDepth 100000 in
set_option maxHeartbeats 1000000 in
theorem plansPuts_any (s : ByteArray) (w : World) (hs : s.size ≤ maxLen) :
    Calls Tryz.prog 168 #[.string s] w (PutsPost s w) := by
  obtain ⟨inf, hinf, hz, hsz1, hby⟩ := infoPut
  have HInf := hide hinf; have HZ := hide hz; have HSz := hide hsz1; have HBy := hide hby
  clear hinf hz hsz1 hby
  unfold maxLen at hs
  by_cases h8 : s.size % 8 = 0
  · have h8' : (s.size : Int) % 8 = 0 := by omega
    by_cases h80 : s.size ≤ 80
    · have h80' : decide ((80 : Int) < (s.size : Int)) = false := by simp; omega
      go_enter Tryz.func168, Tryz.ntmps168
      go_wp2_with fail
      go_loopw [4, 5] (fun v i wr => ∃ k j : Nat, 8 * k ≤ s.size ∧ j = 8 * k ∧ i = .int .i64 j ∧ wr.ownsRow w.heap.size 123 5 v k (putCs (putL s k)) ∧ Below w.heap.size w wr ∧ Hid (∀ q, q < k → okPut (putAt s (8 * q)))) (fun _ i _ => s.size - (intOf i).toNat)
      case atStart => exact ⟨0, 0, Nat.zero_le _, rfl, rfl, World.ownsRow_nil _ _ _ _, Below.refl _ _, fun q hq => by omega⟩
      case round =>
        obtain ⟨k, j, hk, hj, rfl, hown, hbl, HG⟩ := hrel
        obtain ⟨va, vc, hv⟩ := owns_len hown
        subst hv
        have HO := hide hown; have HBl := hide hbl; have HJ := hide hj
        have hwz := hbl.size
        by_cases hlt : j < s.size
        · have hlt' : (j : Int) < (s.size : Int) := by omega
          have hj8 : j + 8 ≤ s.size := by omega
          have hj8' : (j : Int) + 8 ≤ (s.size : Int) := by omega
          have hkk : k ≤ 10 := by omega
          have hr := fun w' => readPut_any (s.extract j (j + 8)) w' (by rw [ByteArray.size_extract]; omega)
          rw [putAt_extr s j hj8] at hr
          have hi := fun w' => isPut_any (putAt s j).kind (putAt s j).d (putAt s j).a (putAt s j).b (putAt s j).k w'
          rw [okPutI_eq] at hi
          simp only [putV] at hr
          have HR := hide hr
          clear hr hown hbl hj h8 h8' hk
          by_cases hok : okPut (putAt s j)
          · rw [@decide_eq_true _ (okDec _) hok] at hi
            have HI := hide hi
            clear hi
            go_wp2_with fail
            refine (unhide HR _).mono ?_
            rintro e w1 ⟨rfl, hb1⟩
            have HB1 := hide hb1
            have hz1 := hb1.size
            clear hb1
            go_wp2_with fail
            refine (unhide HI _).mono ?_
            rintro e w2 ⟨rfl, hb2⟩
            have HB2 := hide hb2
            have hz2 := hb2.size
            rw [size_alloc1] at hz2
            have x0 : w2.cell? ⟨w1.heap.size, 0, none⟩ = some (.int .i64 (putAt s j).kind) := by rw [below_cell' hb2 _ _ (by rw [size_alloc1]; omega), World.cell?_alloc_at (hn := rfl)]; rfl
            have x1 : w2.cell? ⟨w1.heap.size, 1, none⟩ = some (.int .i64 (putAt s j).d) := by rw [below_cell' hb2 _ _ (by rw [size_alloc1]; omega), World.cell?_alloc_at (hn := rfl)]; rfl
            have x2 : w2.cell? ⟨w1.heap.size, 2, none⟩ = some (.int .i64 (putAt s j).a) := by rw [below_cell' hb2 _ _ (by rw [size_alloc1]; omega), World.cell?_alloc_at (hn := rfl)]; rfl
            have x3 : w2.cell? ⟨w1.heap.size, 3, none⟩ = some (.int .i64 (putAt s j).b) := by rw [below_cell' hb2 _ _ (by rw [size_alloc1]; omega), World.cell?_alloc_at (hn := rfl)]; rfl
            have x4 : w2.cell? ⟨w1.heap.size, 4, none⟩ = some (.int .i64 (putAt s j).k) := by rw [below_cell' hb2 _ _ (by rw [size_alloc1]; omega), World.cell?_alloc_at (hn := rfl)]; rfl
            clear hb2
            have HO2 := hide (own_grow (own_grow HO.out HB1.out) (((Below.refl _ _).alloc (Nat.le_refl _) _).trans (HB2.out.mono (by rw [size_alloc1]; omega))))
            have HBw : Hid (Below w.heap.size w w2) := ((HBl.out.trans (HB1.out.mono hwz)).alloc (by omega) _).trans (HB2.out.mono (by rw [size_alloc1]; omega))
            have HS : Hid (putCs (putL s (k + 1)) = putCs (putL s k) ++ [.int .i64 (putAt s j).kind, .int .i64 (putAt s j).d, .int .i64 (putAt s j).a, .int .i64 (putAt s j).b, .int .i64 (putAt s j).k]) := by
              unfold Hid
              rw [putL_succ, putCs_snoc, ← HJ.out]
              rfl
            have HK : Hid (∀ q, q < k + 1 → okPut (putAt s (8 * q))) := fun q hq => by
              by_cases hqk : q = k
              · subst hqk; rw [← HJ.out]; exact hok
              · exact HG.out q (by omega)
            clear HR HI
            generalize putAt s j = p at *
            go_wp2_with (at_builtin; refine wpList_append_lies _ rfl _ _ 125 rfl w.heap.size 123 inf _ 5 40 Tryz.underlying125 HInf.out HZ.out HSz.out HBy.out rfl (by decide) (.slice va k vc) k (putCs (putL s k)) rfl (HO2.out.alloc _) ⟨w2.heap.size, 0, none⟩ 1 1 [.int .i64 p.kind, .int .i64 p.d, .int .i64 p.a, .int .i64 p.b, .int .i64 p.k] rfl rfl (World.news_of_block (_root_.Go.heap_alloc_new w2 _)) (fun u hu => by simp at hu; rcases hu with rfl | rfl | rfl | rfl | rfl <;> rfl) (by decide) (by unfold maxLen; omega) (by omega) (by rw [size_alloc1]; omega) (w2.heap.size + 1) (by rw [size_alloc1]) ?_; intro g2' cap2 w3 hown2 hgr2 hat2 hlt2; have HO3 := hide hown2; have HGr := hide hgr2; clear hown2 hgr2 hat2)
            refine ⟨⟨k + 1, j + 8, by have := HJ.out; omega, by have := HJ.out; omega, by go_num, ?_, ?_, HK⟩, by simp [intOf]; omega⟩
            · rw [HS.out]
              exact HO3.out
            · exact (HBw.out.alloc (by omega) _).grown HGr.out (by rw [size_alloc1]; omega) (fun q hq => (row_lt HO2.out q hq).1)
          · rw [@decide_eq_false _ (okDec _) hok] at hi
            have HI := hide hi
            have HN : Hid (¬ putsOK s) := fun h => hok (by have := h.2.2 k (by have := HJ.out; omega); rw [← HJ.out] at this; exact this)
            clear hi hok
            go_wp2_with fail
            refine (unhide HR _).mono ?_
            rintro e w1 ⟨rfl, hb1⟩
            have HB1 := hide hb1
            have hz1 := hb1.size
            clear hb1
            go_wp2_with fail
            refine (unhide HI _).mono ?_
            rintro e w2 ⟨rfl, hb2⟩
            have HB2 := hide hb2
            clear hb2
            go_wp2_with fail
            go_ret2
            exact ⟨((HBl.out.trans (HB1.out.mono hwz)).alloc (by omega) _).trans (HB2.out.mono (by rw [size_alloc1]; omega)), .inr ⟨HN.out, rfl⟩⟩
        · have hlt' : ¬ (j : Int) < (s.size : Int) := by omega
          have hkn : k = s.size / 8 := by omega
          have HOK : Hid (putsOK s) := ⟨h8, h80, fun q hq => HG.out q (by omega)⟩
          clear hown hbl hj hk
          go_wp2_with fail
          go_ret2
          rw [hkn] at HO
          exact ⟨HBl.out, .inl ⟨HOK.out, _, rfl, HO.out⟩⟩
    · have h80' : (80 : Int) < (s.size : Int) := by omega
      have HN : Hid (¬ putsOK s) := fun h => h80 h.2.1
      go_enter Tryz.func168, Tryz.ntmps168
      go_wp2_with fail
      go_ret2
      exact ⟨Below.refl _ _, .inr ⟨HN.out, rfl⟩⟩
  · have h8' : ((s.size : Int) % 8 == 0) = false := by simp; omega
    have HN : Hid (¬ putsOK s) := fun h => h8 h.1
    go_enter Tryz.func168, Tryz.ntmps168
    go_wp2_with fail
    go_ret2
    exact ⟨Below.refl _ _, .inr ⟨HN.out, rfl⟩⟩
end Go.Proofs.YtmmflekajbeamaaGreatDoor

namespace Go.Proofs.YtmmflekajbeamaaGreatDoor
open Go.RowKit

theorem byte_str (w : World) (q : Nat) : (convert 136 9 (.slice (some ⟨w.heap.size, 0, none⟩) 1 1)).run Tryz.prog (w.alloc (.cells #[.int .u8 ((q : Int) % 256)] 5)) = .ok (.string (bya [UInt8.ofNat (q % 256)])) (w.alloc (.cells #[.int .u8 ((q : Int) % 256)] 5)) := by
  refine run_convert_bytes_back _ _ _ 5 ⟨w.heap.size, 0, none⟩ 1 [UInt8.ofNat (q % 256)] Tryz.underlying136 Tryz.underlying5 Tryz.underlying9 (fun j hj => ?_)
  match j, hj with
  | 0, _ =>
    show (w.alloc _).cell? ⟨w.heap.size, 0, none⟩ = some (.int .u8 ((UInt8.ofNat (q % 256)).toNat : Int))
    rw [World.cell?_alloc_at (hn := rfl), UInt8.toNat_ofNat', Nat.mod_mod]
    simp
theorem numB_succ (k v : Nat) : bya [UInt8.ofNat (v / 256 ^ k % 256)] ++ bya (numB k v) = bya (numB (k + 1) v) := by rw [bya_app]; rfl

set_option maxRecDepth 100000 in
set_option maxHeartbeats 1000000 in
theorem number_ref (v n : Nat) (w : World) (hn : n ≤ 8) (hv : v < 9223372036854775808) :
    Calls Tryz.prog 137 #[.int .i64 (v : Int), .int .i64 (n : Int)] w fun e' w' => e' = .returned (.string (bya (numB n v))) ∧ Below w.heap.size w w' := by
  go_enter Tryz.func137, Tryz.ntmps137
  go_wp2_with fail
  go_loopw [0, 5, 6] (fun x s i wr => ∃ k : Nat, k ≤ n ∧ i = .int .i64 k ∧ s = .string (bya (numB k v)) ∧ x = .int .i64 ((v / 256 ^ k : Nat) : Int) ∧ Below w.heap.size w wr) (fun _ _ i _ => n - (intOf i).toNat)
  case atStart => exact ⟨0, Nat.zero_le _, rfl, rfl, by simp, Below.refl _ _⟩
  case round =>
    obtain ⟨k, hk, rfl, rfl, rfl, hbl⟩ := hrel
    have HBl := hide hbl
    have hwz := hbl.size
    by_cases hlt : k < n
    · have hlt' : (k : Int) < (n : Int) := by omega
      have hq : v / 256 ^ k < 9223372036854775808 := Nat.lt_of_le_of_lt (Nat.div_le_self _ _) hv
      have HE := hide (numB_succ k v)
      have HQ : Hid (v / 256 ^ (k + 1) = v / 256 ^ k / 256) := by unfold Hid; rw [Nat.pow_succ, Nat.div_div_eq_div_mul]
      have kc := byte_str wr (v / 256 ^ k)
      have z1 : (bya (numB k v)).size ≤ 8 := by rw [bya_size, numB_len]; omega
      have z2 : (bya [UInt8.ofNat (v / 256 ^ k % 256)]).size ≤ 8 := by rw [bya_size]; exact Nat.le_of_ble_eq_true rfl
      generalize bya (numB k v) = D1 at *
      generalize bya [UInt8.ofNat (v / 256 ^ k % 256)] = D2 at *
      generalize v / 256 ^ k = q at *
      clear hbl
      go_wp2_with fail
      refine ⟨⟨k + 1, by omega, by go_num, ?_, ?_, HBl.out.alloc hwz _⟩, by simp [intOf]; omega⟩
      · rw [HE.out]
      · rw [HQ.out]; go_num
    · have hlt' : ¬ (k : Int) < (n : Int) := by omega
      obtain rfl : k = n := by omega
      clear hbl
      go_wp2_with fail
      go_ret
      exact ⟨rfl, HBl.out⟩

set_option maxRecDepth 100000 in
set_option maxHeartbeats 1000000 in
theorem constant_ref (x : List UInt8) (w : World) (hx : 0 < x.length) (hl : x.length ≤ 100000) :
    Calls Tryz.prog 241 #[.string (bya x)] w fun e' w' => e' = .returned (.bool (isCon x)) ∧ w' = w := by
  have hz : (bya x).size = x.length := bya_size x
  have hE : ((bt (bya x) 0 : Int) == 35) = isCon x := by
    unfold isCon bt bya
    match x, hx with
    | c :: t, _ =>
      show (((c.toNat : Nat) : Int) == 35) = (c == 35)
      rw [Bool.eq_iff_iff, beq_iff_eq, beq_iff_eq, ← UInt8.toNat_inj]
      show _ ↔ c.toNat = 35
      omega
  have HE := hide hE
  have h0 : (0 : Int) < ((bya x).size : Int) := by omega
  have h0n : 0 < (bya x).size := by omega
  clear hE
  generalize bya x = D at *
  have hg := bt_get D 0 h0n
  go_enter Tryz.func241, Tryz.ntmps241
  go_wp2_with fail
  go_ret
  exact ⟨ret_bool HE.out, rfl⟩
theorem value_x (x : List UInt8) : beN (bya x) 1 4 = valX x := rfl

set_option maxRecDepth 100000 in
set_option maxHeartbeats 2000000 in
theorem joined_ref (op : Nat) (x y : List UInt8) (m : Nat) (w : World) (k2 : 2 ≤ op) (k5 : op ≤ 5) (hx : XS m x) (hy : XS m y) (hm : m ≤ 40000) :
    Calls Tryz.prog 212 #[.int .i64 (op : Int), .string (bya x), .string (bya y)] w fun e' w' => e' = .returned (.string (bya (jnS op x y))) ∧ Below w.heap.size w w' := by
  have hxl : 0 < x.length := by rcases hx.2 with ⟨v, _, rfl⟩ | ⟨_, h⟩; exact Nat.zero_lt_succ _; exact h
  have hyl : 0 < y.length := by rcases hy.2 with ⟨v, _, rfl⟩ | ⟨_, h⟩; exact Nat.zero_lt_succ _; exact h
  have hxm := hx.1; have hym := hy.1
  have HCx := hide (fun w' => constant_ref x w' hxl (by omega))
  have HCy := hide (fun w' => constant_ref y w' hyl (by omega))
  have z1 : (bya x).size ≤ 40000 := by rw [bya_size]; omega
  have z2 : (bya y).size ≤ 40000 := by rw [bya_size]; omega
  by_cases hc : isCon x = true ∧ isCon y = true
  · obtain ⟨cx, cy⟩ := hc
    obtain ⟨vx, hvx, ex⟩ : ∃ v, v < 4294967296 ∧ x = sCon v := by rcases hx.2 with h | ⟨h, _⟩; exact h; rw [cx] at h; cases h
    obtain ⟨vy, hvy, ey⟩ : ∃ v, v < 4294967296 ∧ y = sCon v := by rcases hy.2 with h | ⟨h, _⟩; exact h; rw [cy] at h; cases h
    have HV1 := hide (fun w' => value_any (bya x) 1 4 w' (by decide) (by rw [bya_size, ex, sCon_len]; decide) (by omega))
    have HV2 := hide (fun w' => value_any (bya y) 1 4 w' (by decide) (by rw [bya_size, ey, sCon_len]; decide) (by omega))
    have e1 : beN (bya x) 1 4 = vx := by rw [value_x, ex, valX_con _ hvx]
    have e2 : beN (bya y) 1 4 = vy := by rw [value_x, ey, valX_con _ hvy]
    rw [e1] at HV1
    rw [e2] at HV2
    have HW := hide (fun w' => works_any op vx vy w' (by omega) (by omega) (by omega) (by omega) (by omega) (by omega))
    have hwb := wk_bd op vx vy (by omega) (by omega) (by omega) (by omega)
    have HJ : Hid (bya (jnS op x y) = (⟨#[35]⟩ : ByteArray) ++ bya (numB 4 (wk op vx vy).toNat)) := by
      unfold Hid jnS
      rw [if_pos ⟨cx, cy⟩, ex, ey, valX_con _ hvx, valX_con _ hvy, show (⟨#[35]⟩ : ByteArray) = bya [35] from rfl, bya_app]
      rfl
    obtain ⟨c, hcc⟩ := Int.eq_ofNat_of_zero_le hwb.1
    rw [hcc] at HW HJ
    rw [Int.toNat_natCast] at HJ
    have HN := hide (fun w' => number_ref c 4 w' (by decide) (by omega))
    have z3 : (bya (numB 4 c)).size ≤ 4 := by rw [bya_size, numB_len]; decide
    rw [cx] at HCx
    rw [cy] at HCy
    generalize bya (numB 4 c) = D3 at *
    generalize bya x = D1 at *
    generalize bya y = D2 at *
    generalize bya (jnS op x y) = D at *
    clear ex ey e1 e2 hx hy hxm hym hxl hyl cx cy hwb hcc
    go_enter Tryz.func212, Tryz.ntmps212
    go_wp2_with fail
    refine (unhide HCx _).mono ?_
    rintro e w' ⟨rfl, hw⟩
    obtain rfl := hw.symm
    go_wp2_with fail
    refine (unhide HCy _).mono ?_
    rintro e w' ⟨rfl, hw⟩
    obtain rfl := hw.symm
    go_wp2_with fail
    refine (unhide HV1 _).mono ?_
    rintro e w' ⟨rfl, hw⟩
    obtain rfl := hw.symm
    go_wp2_with fail
    refine (unhide HV2 _).mono ?_
    rintro e w' ⟨rfl, hw⟩
    obtain rfl := hw.symm
    go_wp2_with fail
    refine (unhide HW _).mono ?_
    rintro e w' ⟨rfl, hw⟩
    obtain rfl := hw.symm
    go_wp2_with fail
    refine (unhide HN _).mono ?_
    rintro e w1 ⟨rfl, hb⟩
    have HB := hide hb
    clear hb
    go_wp2_with fail
    go_ret
    rw [HJ.out]
    exact ⟨rfl, HB.out⟩
  · have HJ : Hid (bya (jnS op x y) = (((⟨#[40]⟩ : ByteArray) ++ bya (numB 1 op)) ++ bya x) ++ bya y ++ (⟨#[41]⟩ : ByteArray)) := by
      unfold Hid jnS
      rw [if_neg hc, show (⟨#[40]⟩ : ByteArray) = bya [40] from rfl, show (⟨#[41]⟩ : ByteArray) = bya [41] from rfl, bya_app, bya_app, bya_app, bya_app]
      unfold sOp
      simp
    have HN := hide (fun w' => number_ref op 1 w' (by decide) (by omega))
    have z3 : (bya (numB 1 op)).size ≤ 4 := by rw [bya_size, numB_len]; decide
    have hcc : isCon x = false ∨ (isCon x = true ∧ isCon y = false) := by
      cases h1 : isCon x
      · exact .inl rfl
      · cases h2 : isCon y
        · exact .inr ⟨rfl, rfl⟩
        · exact absurd ⟨h1, h2⟩ hc
    generalize bya (numB 1 op) = D3 at *
    generalize bya x = D1 at *
    generalize bya y = D2 at *
    generalize bya (jnS op x y) = D at *
    clear hx hy hxm hym hxl hyl hc
    rcases hcc with h1 | ⟨h1, h2⟩
    · rw [h1] at HCx
      clear h1
      go_enter Tryz.func212, Tryz.ntmps212
      go_wp2_with fail
      refine (unhide HCx _).mono ?_
      rintro e w' ⟨rfl, hw⟩
      obtain rfl := hw.symm
      go_wp2_with fail
      refine (unhide HCy _).mono ?_
      rintro e w' ⟨rfl, hw⟩
      obtain rfl := hw.symm
      go_wp2_with fail
      refine (unhide HN _).mono ?_
      rintro e w1 ⟨rfl, hb⟩
      have HB := hide hb
      clear hb
      go_wp2_with fail
      go_ret
      rw [HJ.out]
      exact ⟨rfl, HB.out⟩
    · rw [h1] at HCx
      rw [h2] at HCy
      clear h1 h2
      go_enter Tryz.func212, Tryz.ntmps212
      go_wp2_with fail
      refine (unhide HCx _).mono ?_
      rintro e w' ⟨rfl, hw⟩
      obtain rfl := hw.symm
      go_wp2_with fail
      refine (unhide HCy _).mono ?_
      rintro e w' ⟨rfl, hw⟩
      obtain rfl := hw.symm
      go_wp2_with fail
      refine (unhide HN _).mono ?_
      rintro e w1 ⟨rfl, hb⟩
      have HB := hide hb
      clear hb
      go_wp2_with fail
      go_ret
      rw [HJ.out]
      exact ⟨rfl, HB.out⟩

set_option maxRecDepth 100000 in
set_option maxHeartbeats 2000000 in
theorem loaded_ref (x : List UInt8) (k m : Nat) (w : World) (hk : k ≤ 4095) (hx : XS m x) (hm : m ≤ 40000) :
    Calls Tryz.prog 211 #[.string (bya x), .int .i64 (k : Int)] w fun e' w' => e' = .returned (.string (bya (ldS x k))) ∧ Below w.heap.size w w' := by
  have hxl : 0 < x.length := by rcases hx.2 with ⟨v, _, rfl⟩ | ⟨_, h⟩; exact Nat.zero_lt_succ _; exact h
  have hxm := hx.1
  have HCx := hide (fun w' => constant_ref x w' hxl (by omega))
  have z1 : (bya x).size ≤ 40000 := by rw [bya_size]; omega
  by_cases hc : isCon x = true
  · obtain ⟨vx, hvx, ex⟩ : ∃ v, v < 4294967296 ∧ x = sCon v := by rcases hx.2 with h | ⟨h, _⟩; exact h; rw [hc] at h; cases h
    have HV1 := hide (fun w' => value_any (bya x) 1 4 w' (by decide) (by rw [bya_size, ex, sCon_len]; decide) (by omega))
    have e1 : beN (bya x) 1 4 = vx := by rw [value_x, ex, valX_con _ hvx]
    rw [e1] at HV1
    have HJ : Hid (bya (ldS x k) = (⟨#[91]⟩ : ByteArray) ++ ((⟨#[35]⟩ : ByteArray) ++ bya (numB 4 ((vx + k) % 128))) ++ bya (numB 2 0) ++ (⟨#[93]⟩ : ByteArray)) := by
      unfold Hid ldS
      rw [if_pos hc, ex, valX_con _ hvx, show (⟨#[91]⟩ : ByteArray) = bya [91] from rfl, show (⟨#[35]⟩ : ByteArray) = bya [35] from rfl, show (⟨#[93]⟩ : ByteArray) = bya [93] from rfl, bya_app, bya_app, bya_app, bya_app]
      unfold sLd sCon
      simp
    have e2 : ((vx : Int) + (k : Int)) % 128 = (((vx + k) % 128 : Nat) : Int) := by omega
    have HN1 := hide (fun w' => number_ref ((vx + k) % 128) 4 w' (by decide) (by omega))
    have HN2 : Hid (∀ w', Calls Tryz.prog 137 #[.int .i64 0, .int .i64 2] w' fun e' w'' => e' = .returned (.string (bya (numB 2 0))) ∧ Below w'.heap.size w' w'') := fun w' => number_ref 0 2 w' (by decide) (by omega)
    rw [← e2] at HN1
    have z3 : (bya (numB 4 ((vx + k) % 128))).size ≤ 4 := by rw [bya_size, numB_len]; decide
    have z4 : (bya (numB 2 0)).size ≤ 4 := by rw [bya_size, numB_len]; decide
    rw [hc] at HCx
    generalize bya (numB 4 ((vx + k) % 128)) = D3 at *
    generalize bya (numB 2 0) = D4 at *
    generalize bya x = D1 at *
    generalize bya (ldS x k) = D at *
    clear ex e1 e2 hx hxm hxl hc
    go_enter Tryz.func211, Tryz.ntmps211
    go_wp2_with fail
    refine (unhide HCx _).mono ?_
    rintro e w' ⟨rfl, hw⟩
    obtain rfl := hw.symm
    go_wp2_with fail
    refine (unhide HV1 _).mono ?_
    rintro e w' ⟨rfl, hw⟩
    obtain rfl := hw.symm
    go_wp2_with fail
    refine (unhide HN1 _).mono ?_
    rintro e w1 ⟨rfl, hb⟩
    have HB := hide hb
    have hz := hb.size
    clear hb
    go_wp2_with fail
    refine (unhide HN2 _).mono ?_
    rintro e w2 ⟨rfl, hb⟩
    have HB2 := hide (HB.out.trans (hb.mono hz))
    clear hb
    go_wp2_with fail
    go_ret
    rw [HJ.out]
    exact ⟨rfl, HB2.out⟩
  · have hcf : isCon x = false := by simpa using hc
    have HJ : Hid (bya (ldS x k) = (⟨#[91]⟩ : ByteArray) ++ bya x ++ bya (numB 2 k) ++ (⟨#[93]⟩ : ByteArray)) := by
      unfold Hid ldS
      rw [if_neg hc, show (⟨#[91]⟩ : ByteArray) = bya [91] from rfl, show (⟨#[93]⟩ : ByteArray) = bya [93] from rfl, bya_app, bya_app, bya_app]
      unfold sLd
      simp
    have HN2 := hide (fun w' => number_ref k 2 w' (by decide) (by omega))
    have z4 : (bya (numB 2 k)).size ≤ 4 := by rw [bya_size, numB_len]; decide
    rw [hcf] at HCx
    generalize bya (numB 2 k) = D4 at *
    generalize bya x = D1 at *
    generalize bya (ldS x k) = D at *
    clear hx hxm hxl hc hcf
    go_enter Tryz.func211, Tryz.ntmps211
    go_wp2_with fail
    refine (unhide HCx _).mono ?_
    rintro e w' ⟨rfl, hw⟩
    obtain rfl := hw.symm
    go_wp2_with fail
    refine (unhide HN2 _).mono ?_
    rintro e w2 ⟨rfl, hb⟩
    have HB2 := hide hb
    clear hb
    go_wp2_with fail
    go_ret
    rw [HJ.out]
    exact ⟨rfl, HB2.out⟩
end Go.Proofs.YtmmflekajbeamaaGreatDoor

namespace Go.Proofs.YtmmflekajbeamaaGreatDoor
open Go.RowKit Go.Maps

theorem rowIx_some {l : List UInt8} {n : Nat} (h : rowIx l = some n) : n < 12 ∧ rowNm n = l := by
  unfold rowIx at h
  have h1 := List.mem_of_find?_eq_some h
  have h2 := List.find?_some h
  exact ⟨List.mem_range.1 h1, by simpa using h2⟩
theorem rowIx_none {l : List UInt8} (h : rowIx l = none) : instB l = false := by
  unfold rowIx at h
  unfold instB
  rw [List.find?_eq_none] at h
  rw [Bool.eq_false_iff]
  intro h2
  obtain ⟨j, hj, h3⟩ := List.any_eq_true.1 h2
  exact h j hj h3
theorem ba_ext {s : ByteArray} {l : List UInt8} (h : l = s.data.toList) : s = ⟨l.toArray⟩ := by
  obtain ⟨d⟩ := s
  congr 1
  rw [h]

/-- What a call that reads a part of the text leaves. -/
def RdPost (B N b : Nat) (vw vu : Value) (w : World) (r : PS ⊕ (Int × Int × Int)) (e' : Ending) (w' : World) : Prop :=
  ∃ vw' vu', PFr B N b vw vu vw' vu' w w' ∧ ((∃ ps', r = .inl ps' ∧ ProgAt B N ps' vw' b vu' w' ∧ e' = .returned (.agg #[.int .i64 0, .int .i64 0, .int .i64 0])) ∨ ∃ l c e, r = .inr (l, c, e) ∧ e ≠ 0 ∧ e' = .returned (.agg #[.int .i64 l, .int .i64 c, .int .i64 e]))
theorem below_set3 {B : Nat} {w w2 : World} (h : Below B w w2) {n : Nat} (hn : B ≤ n) (x y z : Value) : Below B w (((w2.setCell ⟨n, 0, none⟩ x).setCell ⟨n, 1, none⟩ y).setCell ⟨n, 2, none⟩ z) :=
  ((h.setCell (p := ⟨n, 0, none⟩) hn x).setCell (p := ⟨n, 1, none⟩) hn y).setCell (p := ⟨n, 2, none⟩) hn z
theorem pfr_set3 {B N b : Nat} {vw vu vw' vu' : Value} {w w2 : World} (h : PFr B N b vw vu vw' vu' w w2) {n : Nat} (hB : B ≤ n) (hn : w.heap.size ≤ n) (x y z : Value) : PFr B N b vw vu vw' vu' w (((w2.setCell ⟨n, 0, none⟩ x).setCell ⟨n, 1, none⟩ y).setCell ⟨n, 2, none⟩ z) :=
  ((h.setOut hB hn 0 x).setOut hB hn 1 y).setOut hB hn 2 z

def W2k (hd : Tok) (w : World) : World :=
  (w.alloc (.cells #[.string hd.text, .int .i64 hd.fl, .int .i64 hd.fc, .int .i64 hd.bl, .int .i64 hd.bc] 316)).alloc (.cells #[.int .i64 0, .int .i64 0, .int .i64 0] 250)
theorem W2k_size (hd : Tok) (w : World) : (W2k hd w).heap.size = w.heap.size + 1 + 1 := by unfold W2k; rw [size_alloc1, size_alloc1]
theorem W2k_below (hd : Tok) (w : World) : Below w.heap.size w (W2k hd w) := ((Below.refl _ _).alloc (Nat.le_refl _) _).alloc (by rw [size_alloc1]; omega) _
structure InsC (hd : Tok) (w w2 : World) : Prop where
  t0 : w2.cell? ⟨w.heap.size, 0, none⟩ = some (.string hd.text)
  t1 : w2.cell? ⟨w.heap.size, 1, none⟩ = some (.int .i64 hd.fl)
  t2 : w2.cell? ⟨w.heap.size, 2, none⟩ = some (.int .i64 hd.fc)
  t3 : w2.cell? ⟨w.heap.size, 3, none⟩ = some (.int .i64 hd.bl)
  t4 : w2.cell? ⟨w.heap.size, 4, none⟩ = some (.int .i64 hd.bc)
  f0 : w2.cell? ⟨w.heap.size + 1, 0, none⟩ = some (.int .i64 0)
  f1 : w2.cell? ⟨w.heap.size + 1, 1, none⟩ = some (.int .i64 0)
  f2 : w2.cell? ⟨w.heap.size + 1, 2, none⟩ = some (.int .i64 0)
  ff : ∀ j, w2.frozen? ⟨w.heap.size + 1, j, none⟩ = false
  z1 : w.heap.size + 1 < w2.heap.size
theorem InsC.new (hd : Tok) (w : World) : InsC hd w (W2k hd w) := by
  have e : (w.alloc (.cells #[.string hd.text, .int .i64 hd.fl, .int .i64 hd.fc, .int .i64 hd.bl, .int .i64 hd.bc] 316)).heap.size = w.heap.size + 1 := size_alloc1 _ _
  refine ⟨?_, ?_, ?_, ?_, ?_, ?_, ?_, ?_, fun j => ?_, by rw [W2k_size]; omega⟩
  iterate 5
    · unfold W2k
      rw [World.cell?_alloc_past (hn := by omega), World.cell?_alloc_at (hn := rfl)]; rfl
  iterate 3
    · unfold W2k
      rw [World.cell?_alloc_at (hn := e.symm)]; rfl
  · unfold W2k
    rw [World.frozen?_alloc_at (hn := e.symm)]
theorem InsC.below {hd : Tok} {w w2 w3 : World} (h : InsC hd w w2) {M : Nat} (hM : w.heap.size + 1 < M) (hb : Below M w2 w3) : InsC hd w w3 := by
  have k0 : ∀ j, w3.cell? ⟨w.heap.size, j, none⟩ = w2.cell? ⟨w.heap.size, j, none⟩ := fun j => below_cell' hb _ _ (by omega)
  have k1 : ∀ j, w3.cell? ⟨w.heap.size + 1, j, none⟩ = w2.cell? ⟨w.heap.size + 1, j, none⟩ := fun j => below_cell' hb _ _ hM
  exact ⟨(k0 0).trans h.t0, (k0 1).trans h.t1, (k0 2).trans h.t2, (k0 3).trans h.t3, (k0 4).trans h.t4, (k1 0).trans h.f0, (k1 1).trans h.f1, (k1 2).trans h.f2, fun j => (hb.frozen (p := ⟨w.heap.size + 1, j, none⟩) hM).trans (h.ff j), block_lt_of_cell ((k1 0).trans h.f0)⟩

set_option maxRecDepth 100000 in
set_option maxHeartbeats 2000000 in
theorem readIns_any (B N : Nat) (ps : PS) (vw : Value) (b : Nat) (vu : Value) (hd : Tok) (v : Value) (parts : List Tok) (w : World) (h : ProgAt B N ps vw b vu w) (ht : Tab w) (hsl : SlAt w v parts) (hlow : ∀ a m c, v = .slice (some a) m c → a.block < B)
    (hpl : parts.length ≤ 5000) (hts : ∀ t ∈ parts, t.text.size ≤ maxLen) (hwl : ps.words.length ≤ 128) (hul : ps.uses.length + 3 ≤ 5000) :
    Calls Tryz.prog 251 #[.pointer (some ⟨N, 0, none⟩), .agg (tokC hd).toArray, v] w (RdPost B N b vw vu w (rdIns ps hd parts)) := by
  obtain ⟨wa, wc, rfl⟩ := owns_len h.wd
  have hBw : B ≤ w.heap.size := Nat.le_trans h.bN (Nat.le_of_lt h.nlt)
  have HP := hide h
  have HSl := hide hsl
  have HLow := hide hlow
  have HTs := hide hts
  clear h hsl hlow hts
  have hvs : ∃ a cap, v = .slice a parts.length cap := by obtain ⟨a, cap, e, _⟩ := HSl.out; exact ⟨a, cap, e⟩
  obtain ⟨a, cap, rfl⟩ := hvs
  simp only [tokC]
  cases hix : rowIx hd.text.data.toList with
  | none =>
    have HR : Hid (rdIns ps hd parts = .inr (hd.fl, hd.fc, 4)) := by unfold Hid rdIns; rw [hix]
    have HN := hide (fun w2 (h2 : Tab w2) => byName_no hd.text w2 (rowIx_none hix) h2)
    clear hix
    go_enter Tryz.func251, Tryz.ntmps251
    go_wp2_with fail
    refine (unhide HN _ (ht.below ht.pos (W2k_below hd w))).mono ?_
    rintro e w2 ⟨rfl, hb2⟩
    have HB2 : Hid (Below w.heap.size w w2) := (W2k_below hd w).trans (hb2.mono (W2k_below hd w).size)
    obtain ⟨t0, t1, t2, t3, t4, f0, f1, f2, ff, z1⟩ := (InsC.new hd w).below (by show w.heap.size + 1 < (W2k hd w).heap.size; rw [W2k_size]; omega) hb2
    clear hb2
    have z0 : w.heap.size < w2.heap.size := by omega
    simp only [zeroRow]
    go_wp2_with fail
    refine bodyPost_ret (v := .agg #[.int .i64 hd.fl, .int .i64 hd.fc, .int .i64 4]) (by simp [results, Tryz.results251, go_sem, f0, f1, f2, z1]) rfl ?_
    unfold RdPost
    refine ⟨_, _, PFr.of_below hBw ?_, .inr ⟨_, _, _, HR.out, by decide, rfl⟩⟩
    have y := below_set3 HB2.out (Nat.le_succ w.heap.size) (.int .i64 hd.fl) (.int .i64 hd.fc) (.int .i64 4)
    exact y.alloc y.size _
  | some n =>
    obtain ⟨hn, hnm⟩ := rowIx_some hix
    have htx : hd.text = ⟨(rowNm n).toArray⟩ := ba_ext hnm
    have HR : Hid (rdIns ps hd parts = match chkGo (rowPt n) 0 hd parts with | some (l, c) => .inr (l, c, 4) | none => if ps.words.length = 128 then .inr (hd.fl, hd.fc, 5) else .inl (layS n parts ps)) := by
      unfold Hid rdIns
      simp only [hix]
      cases chkGo (rowPt n) 0 hd parts with
      | none => rfl
      | some p => rfl
    have HN := hide (fun w2 (h2 : Tab w2) => byName_yes n w2 hn h2)
    rw [← htx] at HN
    have HTx := hide htx
    clear hix hnm htx
    go_enter Tryz.func251, Tryz.ntmps251
    go_wp2_with fail
    refine (unhide HN _ (ht.below ht.pos (W2k_below hd w))).mono ?_
    rintro e w2 ⟨rfl, hb2⟩
    have HB2 : Hid (Below w.heap.size w w2) := (W2k_below hd w).trans (hb2.mono (W2k_below hd w).size)
    have HC2 := hide ((InsC.new hd w).below (by show w.heap.size + 1 < (W2k hd w).heap.size; rw [W2k_size]; omega) hb2)
    obtain ⟨t0, t1, t2, t3, t4, f0, f1, f2, ff, z1⟩ := HC2.out
    clear hb2
    have z0 : w.heap.size < w2.heap.size := by omega
    have HW3 : Hid (Below w2.heap.size w2 (w2.alloc (.cells #[.string ⟨(rowNm n).toArray⟩, .int .i64 (rowOp n), .string ⟨(rowPt n).toArray⟩] 245))) := (Below.refl _ _).alloc (Nat.le_refl _) _
    have HCk := hide (checkParts_any n hd _ parts (w2.alloc (.cells #[.string ⟨(rowNm n).toArray⟩, .int .i64 (rowOp n), .string ⟨(rowPt n).toArray⟩] 245)) (HSl.out.below (HB2.out.trans (HW3.out.mono HB2.out.size))) (ht.below ht.pos (HB2.out.trans (HW3.out.mono HB2.out.size))) hpl HTs.out)
    simp only [rowV, tokC] at HCk ⊢
    go_wp2_with fail
    refine (unhide HCk).mono ?_
    rintro e w3 ⟨hb3, hres⟩
    have HB3 : Hid (Below w2.heap.size w2 w3) := HW3.out.trans (hb3.mono HW3.out.size)
    have HC3 := hide (HC2.out.below z1 HB3.out)
    have HBw : Hid (Below w.heap.size w w3) := HB2.out.trans (HB3.out.mono HB2.out.size)
    have r0 : w3.cell? ⟨w2.heap.size, 0, none⟩ = some (.string ⟨(rowNm n).toArray⟩) := by rw [below_cell' hb3 _ _ (by rw [size_alloc1]; omega), World.cell?_alloc_at (hn := rfl)]; rfl
    have r1 : w3.cell? ⟨w2.heap.size, 1, none⟩ = some (.int .i64 (rowOp n)) := by rw [below_cell' hb3 _ _ (by rw [size_alloc1]; omega), World.cell?_alloc_at (hn := rfl)]; rfl
    have r2 : w3.cell? ⟨w2.heap.size, 2, none⟩ = some (.string ⟨(rowPt n).toArray⟩) := by rw [below_cell' hb3 _ _ (by rw [size_alloc1]; omega), World.cell?_alloc_at (hn := rfl)]; rfl
    have zr : w2.heap.size < w3.heap.size := block_lt_of_cell r0
    clear hb3 t0 t1 t2 t3 t4 f0 f1 f2 ff z1 HCk HW3 HN
    obtain ⟨t0, t1, t2, t3, t4, f0, f1, f2, ff, z1⟩ := HC3.out
    have z0' : w.heap.size < w3.heap.size := by omega
    rcases hres with ⟨hck, rfl⟩ | ⟨l, c, hck, rfl⟩
    · rw [hck] at HR
      have hP3 := HP.out.above HBw.out
      have c0 := hP3.c0
      have hN3 := hP3.nlt
      have hNw := HP.out.nlt
      obtain ⟨k1, k2⟩ := chk_none (rowPt n) parts 0 hd (Nat.zero_le _) hck
      simp only [Nat.zero_add] at k1 k2
      have HK1 := hide k1
      have HK2 := hide k2
      clear k1 k2 hck
      by_cases hm : ps.words.length = 128
      · rw [if_pos hm] at HR
        have hm' : (ps.words.length : Int) = 128 := by omega
        clear hP3
        go_wp2_with fail
        refine bodyPost_ret (v := .agg #[.int .i64 hd.fl, .int .i64 hd.fc, .int .i64 5]) (by simp [results, Tryz.results251, go_sem, f0, f1, f2, z1]) rfl ?_
        unfold RdPost
        refine ⟨_, _, PFr.of_below hBw ?_, .inr ⟨_, _, _, HR.out, by decide, rfl⟩⟩
        have y := below_set3 HBw.out (Nat.le_succ w.heap.size) (.int .i64 hd.fl) (.int .i64 hd.fc) (.int .i64 5)
        exact y.alloc y.size _
      · rw [if_neg hm] at HR
        have hm' : ¬ (ps.words.length : Int) = 128 := by omega
        have HL := hide (fun o => lay_any B N n ps _ b vu _ parts (w3.alloc o) (hP3.alloc o) hn (HSl.out.below (HBw.out.trans ((Below.refl _ _).alloc HBw.out.size o))) HLow.out HK1.out HK2.out HTs.out hwl hul)
        simp only [rowV] at HL
        have HP3 := hide hP3
        clear hP3
        go_wp2_with fail
        refine (unhide HL _).mono ?_
        rintro e w4 ⟨rfl, vw', vu', h4, hf4⟩
        have hni : ¬ InP N (.slice wa ps.words.length wc) b vu (w.heap.size + 1) := fun hi => by have := (HP.out.inlt hi).2; omega
        have hblk : w4.heap[w.heap.size + 1]? = w3.heap[w.heap.size + 1]? := (hf4.out _ (by rw [size_alloc1]; omega) hni).trans (Below.heap_alloc w3 _ _ z1)
        have y0 : w4.cell? ⟨w.heap.size + 1, 0, none⟩ = some (.int .i64 0) := (World.cell?_of_block hblk).trans f0
        have y1 : w4.cell? ⟨w.heap.size + 1, 1, none⟩ = some (.int .i64 0) := (World.cell?_of_block hblk).trans f1
        have y2 : w4.cell? ⟨w.heap.size + 1, 2, none⟩ = some (.int .i64 0) := (World.cell?_of_block hblk).trans f2
        have yf : ∀ j, w4.frozen? ⟨w.heap.size + 1, j, none⟩ = false := fun j => (World.frozen?_of_block hblk).trans (ff j)
        have H4 := hide h4; have HF4 := hide hf4
        clear h4 hf4 t0 t1 t2 t3 t4 f0 f1 f2 ff HL hblk r0 r1 r2
        go_wp2_with fail
        refine bodyPost_ret (v := .agg #[.int .i64 0, .int .i64 0, .int .i64 0]) (by simp [results, Tryz.results251, go_sem, y0, y1, y2]) rfl ?_
        unfold RdPost
        have hnew : ¬ InP N vw' b vu' (w.heap.size + 1) := fun hi => by
          rcases HF4.out.new _ hi with h5 | h5
          · exact hni h5
          · rw [size_alloc1] at h5; omega
        have z0 := (PFr.of_below (N := N) (b := b) (vw := .slice wa ps.words.length wc) (vu := vu) hBw (HBw.out.alloc HBw.out.size _)).trans HF4.out
        refine ⟨vw', vu', pfr_set3 z0 (Nat.le_trans hBw (Nat.le_succ _)) (Nat.le_succ _) _ _ _, .inl ⟨_, HR.out, ?_, rfl⟩⟩
        exact ((H4.out.setOut hnew 0 _).setOut hnew 1 _).setOut hnew 2 _
    · rw [hck] at HR
      clear hck
      go_wp2_with fail
      refine bodyPost_ret (v := .agg #[.int .i64 l, .int .i64 c, .int .i64 4]) (by simp [results, Tryz.results251, go_sem, f0, f1, f2, z1]) rfl ?_
      unfold RdPost
      refine ⟨_, _, PFr.of_below hBw ?_, .inr ⟨_, _, _, HR.out, by decide, rfl⟩⟩
      have y := below_set3 HBw.out (Nat.le_succ w.heap.size) (.int .i64 l) (.int .i64 c) (.int .i64 4)
      exact y.alloc y.size _
end Go.Proofs.YtmmflekajbeamaaGreatDoor
