/-
  Plans: a put out of its bytes (readPut).
  Plans: whether a put may stand in a plan (isPut).
  Plans: the puts of a plan's text (plans.Puts).
  Plans, the document's answer: numbers as texts; expressions as texts (Number, constant, joined, loaded, begin).
  An instruction is read (readInstruction).
  A line is read (readLine).
  Plans: the table that holds each expression once, in memory: a list of expressions and a map that tells their numbers.
  Plans: an expression is held once (table.hold); constants and registers.
-/
import Derived.Test.YtmmflekajbeamabGreatDoorW04
import Derived.Test.YtmmflekajbeamabGreatDoorW03
import Derived.Maps.OwnSet
import Derived.Maps.OwnOps
import Derived.DeepKeys4
namespace Go.Proofs.YtmmflekajbeamabGreatDoor
open Go.RowKit

set_option maxRecDepth 100000 in
set_option maxHeartbeats 400000 in
theorem readPut_any (t : ByteArray) (w : World) (ht : t.size = 8) :
    Calls Tryz.prog 135 #[.string t] w fun e' w' => e' = .returned (.agg (putV (putAt t 0))) ∧ Below w.heap.size w w' := by
  have g0 := bt_get t 0 (by omega); have g1 := bt_get t 1 (by omega); have g2 := bt_get t 2 (by omega); have g3 := bt_get t 3 (by omega)
  have b0 := bt_lt t 0; have b1 := bt_lt t 1; have b2 := bt_lt t 2; have b3 := bt_lt t 3
  have HP : Hid (putV (putAt t 0) = #[.int .i64 (bt t 0), .int .i64 (bt t 1), .int .i64 (bt t 2), .int .i64 (bt t 3), .int .i64 (beN t 4 4)]) := rfl
  have hz4 : (t.extract 4 t.size).size = 4 := by rw [ByteArray.size_extract]; omega
  have hr := fun w' => numRead_any (t.extract 4 t.size) w' (by omega)
  rw [hz4] at hr
  have he : beN (t.extract 4 t.size) 0 4 = beN t 4 4 := by
    have := extr_beN t 4 4 0 (by omega) 4 (by omega)
    rw [show t.size = 4 + 4 by omega]
    exact this
  rw [he] at hr
  rw [ht] at hr
  have HR := hide hr
  clear hr he
  have ht' : (t.size : Int) = 8 := by omega
  generalize beN t 4 4 = k4 at *
  go_enter Tryz.func135, Tryz.ntmps135
  go_wp2_with fail
  refine held_tail 14 3 (fun _ => True) (by kernel_rfl) (by kernel_rfl) (fun d _ _ _ _ h => by cases d <;> exact h) trivial ?_
  simp only [List.take_succ_cons, List.take_zero, List.drop_succ_cons, List.drop_zero]
  iterate 14
    refine wpTake_step ?_ rfl ?_ ?_
    rotate_left
    · rintro w' d0
      go_simp
      rfl
    go_simp
  refine wpTake_nil ?_
  refine wpTail_step rfl (fun K hK => ?_)
  go_simp
  refine (unhide HR _).mono ?_
  rintro e w' ⟨rfl, hw⟩
  obtain rfl := hw.symm
  refine hK _ _ trivial ?_
  clear hK K
  refine wpTail_step rfl (fun K hK => ?_)
  go_simp
  refine hK _ _ trivial ?_
  clear hK K
  refine wpTail_step rfl (fun K hK => ?_)
  go_simp
  refine hK _ _ trivial ?_
  clear hK K
  unfold wpTailS
  go_wp2_with fail
  refine bodyPost_ret (v := .agg #[.int .i64 (bt t 0), .int .i64 (bt t 1), .int .i64 (bt t 2), .int .i64 (bt t 3), .int .i64 k4]) (by simp [results, Tryz.results135, go_sem]; exact ⟨IntWalk.i64_in _ ⟨by omega, by omega⟩, IntWalk.i64_in _ ⟨by omega, by omega⟩, IntWalk.i64_in _ ⟨by omega, by omega⟩, IntWalk.i64_in _ ⟨by omega, by omega⟩⟩) rfl ?_
  rw [HP.out]
  exact ⟨rfl, ((Below.refl _ _).alloc (Nat.le_refl _) _).drew⟩
end Go.Proofs.YtmmflekajbeamabGreatDoor

namespace Go.Proofs.YtmmflekajbeamabGreatDoor
open Go.RowKit

/-- A put's numbers, as ints. -/
def okPutI (kind d a b k : Int) : Bool := decide (d < 16 ∧ a < 16 ∧ b < 16 ∧ ((kind = 1 ∧ a = 0 ∧ b = 0) ∨ (2 ≤ kind ∧ kind ≤ 5 ∧ k = 0) ∨ (kind = 6 ∧ b = 0 ∧ k ≤ 4095) ∨ (kind = 7 ∧ b = 0 ∧ k = 0)))
theorem okPutI_eq (p : PutN) : okPutI p.kind p.d p.a p.b p.k = @decide (okPut p) (okDec p) := by
  unfold okPutI
  rw [decide_eq_decide]
  unfold okPut
  omega
set_option maxRecDepth 100000 in
set_option maxHeartbeats 4000000 in
theorem isPut_any (kind d a b k : Int) (w : World) :
    Calls Tryz.prog 136 #[.agg #[.int .i64 kind, .int .i64 d, .int .i64 a, .int .i64 b, .int .i64 k]] w fun e' w' => e' = .returned (.bool (okPutI kind d a b k)) ∧ Below w.heap.size w w' := by
  have HE : ∀ x : Bool, x = okPutI kind d a b k → (Ending.returned (.bool x) = .returned (.bool (okPutI kind d a b k)) ∧ Below w.heap.size w (w.alloc (.cells #[.int .i64 kind, .int .i64 d, .int .i64 a, .int .i64 b, .int .i64 k] 174))) := fun _ h => ⟨ret_bool h, below_alloc _⟩
  have HE := hide HE
  have HA := hide (fun w' => isArith_any kind w')
  by_cases h1 : d < 16 ∧ a < 16 ∧ b < 16
  · obtain ⟨hd, ha, hb⟩ := h1
    by_cases hk1 : kind = 1
    · subst hk1
      by_cases ha0 : a = 0
      · by_cases hb0 : b = 0
        · subst ha0 hb0
          go_enter Tryz.func136, Tryz.ntmps136
          go_wp2_with fail
          go_ret
          exact HE.out _ (by simp [okPutI]; omega)
        · have hb0' : (b == 0) = false := by simpa using hb0
          subst ha0
          go_enter Tryz.func136, Tryz.ntmps136
          go_wp2_with fail
          go_ret
          exact HE.out _ (by simp [okPutI]; omega)
      · have ha0' : (a == 0) = false := by simpa using ha0
        go_enter Tryz.func136, Tryz.ntmps136
        go_wp2_with fail
        go_ret
        exact HE.out _ (by simp [okPutI]; omega)
    · have hk1' : (kind == 1) = false := by simpa using hk1
      by_cases har : 2 ≤ kind ∧ kind ≤ 5
      · have hq : arB kind = true := by unfold arB; simpa using har
        have HA' : Hid (∀ w', Calls Tryz.prog 185 #[.int .i64 kind] w' fun e' w'' => e' = .returned (.bool true) ∧ w'' = w') := fun w' => by have := HA.out w'; rw [hq] at this; exact this
        go_enter Tryz.func136, Tryz.ntmps136
        go_wp2_with fail
        refine (unhide HA' _).mono ?_
        rintro e w' ⟨rfl, hw⟩
        obtain rfl := hw.symm
        go_wp2_with fail
        go_ret
        refine HE.out _ ?_
        by_cases hk0 : k = 0
        · subst hk0; simp [okPutI]; omega
        · have : okPutI kind d a b k = false := by unfold okPutI; rw [decide_eq_false_iff_not]; omega
          rw [this]; simpa using hk0
      · have hq : arB kind = false := by unfold arB; rw [decide_eq_false_iff_not]; exact har
        have HA' : Hid (∀ w', Calls Tryz.prog 185 #[.int .i64 kind] w' fun e' w'' => e' = .returned (.bool false) ∧ w'' = w') := fun w' => by have := HA.out w'; rw [hq] at this; exact this
        by_cases hk6 : kind = 6
        · subst hk6
          clear har hk1 hq
          by_cases hb0 : b = 0
          · subst hb0
            go_enter Tryz.func136, Tryz.ntmps136
            go_wp2_with fail
            refine (unhide HA' _).mono ?_
            rintro e w' ⟨rfl, hw⟩
            obtain rfl := hw.symm
            go_wp2_with fail
            go_ret
            refine HE.out _ ?_
            unfold okPutI
            rw [decide_eq_decide]
            omega
          · have hb0' : (b == 0) = false := by simpa using hb0
            go_enter Tryz.func136, Tryz.ntmps136
            go_wp2_with fail
            refine (unhide HA' _).mono ?_
            rintro e w' ⟨rfl, hw⟩
            obtain rfl := hw.symm
            go_wp2_with fail
            go_ret
            exact HE.out _ (by simp [okPutI]; omega)
        · have hk6' : (kind == 6) = false := by simpa using hk6
          by_cases hk7 : kind = 7
          · subst hk7
            clear har hk1 hq hk6
            by_cases hb0 : b = 0
            · subst hb0
              go_enter Tryz.func136, Tryz.ntmps136
              go_wp2_with fail
              refine (unhide HA' _).mono ?_
              rintro e w' ⟨rfl, hw⟩
              obtain rfl := hw.symm
              go_wp2_with fail
              go_ret
              refine HE.out _ ?_
              by_cases hk0 : k = 0
              · subst hk0; simp [okPutI]; omega
              · simp [okPutI, hk0]
            · have hb0' : (b == 0) = false := by simpa using hb0
              go_enter Tryz.func136, Tryz.ntmps136
              go_wp2_with fail
              refine (unhide HA' _).mono ?_
              rintro e w' ⟨rfl, hw⟩
              obtain rfl := hw.symm
              go_wp2_with fail
              go_ret
              exact HE.out _ (by simp [okPutI]; omega)
          · have hk7' : (kind == 7) = false := by simpa using hk7
            go_enter Tryz.func136, Tryz.ntmps136
            go_wp2_with fail
            refine (unhide HA' _).mono ?_
            rintro e w' ⟨rfl, hw⟩
            obtain rfl := hw.symm
            go_wp2_with fail
            go_ret
            exact HE.out _ (by simp [okPutI]; omega)
  · have hf : okPutI kind d a b k = false := by unfold okPutI; rw [decide_eq_false_iff_not]; omega
    have HF := hide hf
    by_cases hd : 16 ≤ d
    · go_enter Tryz.func136, Tryz.ntmps136
      go_wp2_with fail
      go_ret
      exact HE.out _ HF.out.symm
    · have hd' : decide (16 ≤ d) = false := by simpa using hd
      by_cases ha : 16 ≤ a
      · go_enter Tryz.func136, Tryz.ntmps136
        go_wp2_with fail
        go_ret
        exact HE.out _ HF.out.symm
      · have ha' : decide (16 ≤ a) = false := by simpa using ha
        have hb : 16 ≤ b := by omega
        go_enter Tryz.func136, Tryz.ntmps136
        go_wp2_with fail
        go_ret
        exact HE.out _ HF.out.symm
end Go.Proofs.YtmmflekajbeamabGreatDoor

namespace Go.Proofs.YtmmflekajbeamabGreatDoor
open Go.RowKit

def putCs (l : List PutN) : List Value := l.flatMap fun p => (putV p).toList
theorem putCs_snoc (l : List PutN) (p : PutN) : putCs (l ++ [p]) = putCs l ++ (putV p).toList := by simp [putCs]
theorem infoPut : ∃ i, Tryz.prog.info? 174 = some i ∧ i.zero = some (.agg #[.int .i64 0, .int .i64 0, .int .i64 0, .int .i64 0, .int .i64 0]) ∧ i.size = 5 ∧ i.bytes = 40 := by
  have h : (Tryz.prog.info? 174).map (fun i => (i.zero, i.size, i.bytes)) = some (some (.agg #[.int .i64 0, .int .i64 0, .int .i64 0, .int .i64 0, .int .i64 0]), 5, 40) := by kernel_rfl
  cases hq : Tryz.prog.info? 174 with
  | none => rw [hq] at h; cases h
  | some i =>
    rw [hq] at h
    simp only [Option.map_some, Option.some.injEq, Prod.mk.injEq] at h
    exact ⟨i, rfl, h.1, h.2.1, h.2.2⟩
theorem putAt_extr (s : ByteArray) (i : Nat) (hi : i + 8 ≤ s.size) : putAt (s.extract i (i + 8)) 0 = putAt s i := by
  have e : ∀ j, j < 8 → bt (s.extract i (i + 8)) j = bt s (i + j) := fun j hj => extr_get s i 8 j hi hj
  have e4 := extr_beN s i 8 4 hi 4 (by decide)
  have h0 := e 0 (by decide); have h1 := e 1 (by decide); have h2 := e 2 (by decide); have h3 := e 3 (by decide)
  unfold bt at h0 h1 h2 h3
  unfold putAt
  simp only [Nat.zero_add, Nat.add_zero] at *
  rw [h0, h1, h2, h3, e4]
/-- What a reading of puts leaves. -/
def PutsPost (s : ByteArray) (w : World) (e' : Ending) (w' : World) : Prop :=
  Below w.heap.size w w' ∧ ((putsOK s ∧ ∃ v, e' = .returned (.tuple #[v, .int .i64 0]) ∧ w'.ownsRow w.heap.size 174 5 v (s.size / 8) (putCs (putL s (s.size / 8)))) ∨ (¬ putsOK s ∧ e' = .returned (.tuple #[.slice none 0 0, .int .i64 11])))

set_option maxRecDepth 100000 in
set_option maxHeartbeats 1000000 in
theorem plansPuts_any (s : ByteArray) (w : World) (hs : s.size ≤ maxLen) :
    Calls Tryz.prog 81 #[.string s] w (PutsPost s w) := by
  obtain ⟨inf, hinf, hz, hsz1, hby⟩ := infoPut
  have HInf := hide hinf; have HZ := hide hz; have HSz := hide hsz1; have HBy := hide hby
  clear hinf hz hsz1 hby
  unfold maxLen at hs
  by_cases h8 : s.size % 8 = 0
  · have h8' : (s.size : Int) % 8 = 0 := by omega
    by_cases h80 : s.size ≤ 80
    · have h80' : decide ((80 : Int) < (s.size : Int)) = false := by simp; omega
      go_enter Tryz.func81, Tryz.ntmps81
      go_wp2_with fail
      go_loopw [4, 5] (fun v i wr => ∃ k j : Nat, 8 * k ≤ s.size ∧ j = 8 * k ∧ i = .int .i64 j ∧ wr.ownsRow w.heap.size 174 5 v k (putCs (putL s k)) ∧ Below w.heap.size w wr ∧ Hid (∀ q, q < k → okPut (putAt s (8 * q)))) (fun _ i _ => s.size - (intOf i).toNat)
      case atStart => exact ⟨0, 0, Nat.zero_le _, rfl, rfl, World.ownsRow_nil _ _ _ _, Below.refl _ _, fun q hq => by omega⟩
      case round =>
        obtain ⟨k, j, hk, hj, rfl, hown, hbl, HG⟩ := hrel
        obtain ⟨va, vc, hv⟩ := owns_len hown
        subst hv
        have HO := hide hown; have HBl := hide hbl; have HJ := hide hj
        have hwz := hbl.size
        by_cases hlt : j < s.size
        · have hlt' : (j : Int) < (s.size : Int) := by omega
          have hj8 : j + 8 ≤ s.size := by omega
          have hj8' : (j : Int) + 8 ≤ (s.size : Int) := by omega
          have hkk : k ≤ 10 := by omega
          have hr := fun w' => readPut_any (s.extract j (j + 8)) w' (by rw [ByteArray.size_extract]; omega)
          rw [putAt_extr s j hj8] at hr
          have hi := fun w' => isPut_any (putAt s j).kind (putAt s j).d (putAt s j).a (putAt s j).b (putAt s j).k w'
          rw [okPutI_eq] at hi
          simp only [putV] at hr
          have HR := hide hr
          clear hr hown hbl hj h8 h8' hk
          by_cases hok : okPut (putAt s j)
          · rw [@decide_eq_true _ (okDec _) hok] at hi
            have HI := hide hi
            clear hi
            go_wp2_with fail
            refine (unhide HR _).mono ?_
            rintro e w1 ⟨rfl, hb1⟩
            have HB1 := hide hb1
            have hz1 := hb1.size
            clear hb1
            go_wp2_with fail
            refine (unhide HI _).mono ?_
            rintro e w2 ⟨rfl, hb2⟩
            have HB2 := hide hb2
            have hz2 := hb2.size
            rw [size_alloc1] at hz2
            have x0 : w2.cell? ⟨w1.heap.size, 0, none⟩ = some (.int .i64 (putAt s j).kind) := by rw [below_cell' hb2 _ _ (by rw [size_alloc1]; omega), World.cell?_alloc_at (hn := rfl)]; rfl
            have x1 : w2.cell? ⟨w1.heap.size, 1, none⟩ = some (.int .i64 (putAt s j).d) := by rw [below_cell' hb2 _ _ (by rw [size_alloc1]; omega), World.cell?_alloc_at (hn := rfl)]; rfl
            have x2 : w2.cell? ⟨w1.heap.size, 2, none⟩ = some (.int .i64 (putAt s j).a) := by rw [below_cell' hb2 _ _ (by rw [size_alloc1]; omega), World.cell?_alloc_at (hn := rfl)]; rfl
            have x3 : w2.cell? ⟨w1.heap.size, 3, none⟩ = some (.int .i64 (putAt s j).b) := by rw [below_cell' hb2 _ _ (by rw [size_alloc1]; omega), World.cell?_alloc_at (hn := rfl)]; rfl
            have x4 : w2.cell? ⟨w1.heap.size, 4, none⟩ = some (.int .i64 (putAt s j).k) := by rw [below_cell' hb2 _ _ (by rw [size_alloc1]; omega), World.cell?_alloc_at (hn := rfl)]; rfl
            clear hb2
            have HO2 := hide (own_grow (own_grow HO.out HB1.out) (((Below.refl _ _).alloc (Nat.le_refl _) _).trans (HB2.out.mono (by rw [size_alloc1]; omega))))
            have HBw : Hid (Below w.heap.size w w2) := ((HBl.out.trans (HB1.out.mono hwz)).alloc (by omega) _).trans (HB2.out.mono (by rw [size_alloc1]; omega))
            have HS : Hid (putCs (putL s (k + 1)) = putCs (putL s k) ++ [.int .i64 (putAt s j).kind, .int .i64 (putAt s j).d, .int .i64 (putAt s j).a, .int .i64 (putAt s j).b, .int .i64 (putAt s j).k]) := by
              unfold Hid
              rw [putL_succ, putCs_snoc, ← HJ.out]
              rfl
            have HK : Hid (∀ q, q < k + 1 → okPut (putAt s (8 * q))) := fun q hq => by
              by_cases hqk : q = k
              · subst hqk; rw [← HJ.out]; exact hok
              · exact HG.out q (by omega)
            clear HR HI
            generalize putAt s j = p at *
            go_wp2_with (at_builtin; refine wpList_append_lies _ rfl _ _ 134 rfl w.heap.size 174 inf _ 5 40 Tryz.underlying134 HInf.out HZ.out HSz.out HBy.out rfl (by decide) (.slice va k vc) k (putCs (putL s k)) rfl (HO2.out.alloc _) ⟨w2.heap.size, 0, none⟩ 1 1 [.int .i64 p.kind, .int .i64 p.d, .int .i64 p.a, .int .i64 p.b, .int .i64 p.k] rfl rfl (World.news_of_block (_root_.Go.heap_alloc_new w2 _)) (fun u hu => by simp at hu; rcases hu with rfl | rfl | rfl | rfl | rfl <;> rfl) (by decide) (by unfold maxLen; omega) (by omega) (by rw [size_alloc1]; omega) (w2.heap.size + 1) (by rw [size_alloc1]) ?_; intro g2' cap2 w3 hown2 hgr2 hat2 hlt2; have HO3 := hide hown2; have HGr := hide hgr2; clear hown2 hgr2 hat2)
            refine ⟨⟨k + 1, j + 8, by have := HJ.out; omega, by have := HJ.out; omega, by go_num, ?_, ?_, HK⟩, by simp [intOf]; omega⟩
            · rw [HS.out]
              exact HO3.out
            · exact (HBw.out.alloc (by omega) _).grown HGr.out (by rw [size_alloc1]; omega) (fun q hq => (row_lt HO2.out q hq).1)
          · rw [@decide_eq_false _ (okDec _) hok] at hi
            have HI := hide hi
            have HN : Hid (¬ putsOK s) := fun h => hok (by have := h.2.2 k (by have := HJ.out; omega); rw [← HJ.out] at this; exact this)
            clear hi hok
            go_wp2_with fail
            refine (unhide HR _).mono ?_
            rintro e w1 ⟨rfl, hb1⟩
            have HB1 := hide hb1
            have hz1 := hb1.size
            clear hb1
            go_wp2_with fail
            refine (unhide HI _).mono ?_
            rintro e w2 ⟨rfl, hb2⟩
            have HB2 := hide hb2
            clear hb2
            go_wp2_with fail
            go_ret2
            exact ⟨((HBl.out.trans (HB1.out.mono hwz)).alloc (by omega) _).trans (HB2.out.mono (by rw [size_alloc1]; omega)), .inr ⟨HN.out, rfl⟩⟩
        · have hlt' : ¬ (j : Int) < (s.size : Int) := by omega
          have hkn : k = s.size / 8 := by omega
          have HOK : Hid (putsOK s) := ⟨h8, h80, fun q hq => HG.out q (by omega)⟩
          clear hown hbl hj hk
          go_wp2_with fail
          go_ret2
          rw [hkn] at HO
          exact ⟨HBl.out, .inl ⟨HOK.out, _, rfl, HO.out⟩⟩
    · have h80' : (80 : Int) < (s.size : Int) := by omega
      have HN : Hid (¬ putsOK s) := fun h => h80 h.2.1
      go_enter Tryz.func81, Tryz.ntmps81
      go_wp2_with fail
      go_ret2
      exact ⟨Below.refl _ _, .inr ⟨HN.out, rfl⟩⟩
  · have h8' : ((s.size : Int) % 8 == 0) = false := by simp; omega
    have HN : Hid (¬ putsOK s) := fun h => h8 h.1
    go_enter Tryz.func81, Tryz.ntmps81
    go_wp2_with fail
    go_ret2
    exact ⟨Below.refl _ _, .inr ⟨HN.out, rfl⟩⟩
end Go.Proofs.YtmmflekajbeamabGreatDoor

namespace Go.Proofs.YtmmflekajbeamabGreatDoor
open Go.RowKit

theorem byte_str (w : World) (q : Nat) : (convert 121 9 (.slice (some ⟨w.heap.size, 0, none⟩) 1 1)).run Tryz.prog (w.alloc (.cells #[.int .u8 ((q : Int) % 256)] 5)) = .ok (.string (bya [UInt8.ofNat (q % 256)])) (w.alloc (.cells #[.int .u8 ((q : Int) % 256)] 5)) := by
  refine run_convert_bytes_back _ _ _ 5 ⟨w.heap.size, 0, none⟩ 1 [UInt8.ofNat (q % 256)] Tryz.underlying121 Tryz.underlying5 Tryz.underlying9 (fun j hj => ?_)
  match j, hj with
  | 0, _ =>
    show (w.alloc _).cell? ⟨w.heap.size, 0, none⟩ = some (.int .u8 ((UInt8.ofNat (q % 256)).toNat : Int))
    rw [World.cell?_alloc_at (hn := rfl), UInt8.toNat_ofNat', Nat.mod_mod]
    simp
theorem numB_succ (k v : Nat) : bya [UInt8.ofNat (v / 256 ^ k % 256)] ++ bya (numB k v) = bya (numB (k + 1) v) := by rw [bya_app]; rfl

set_option maxRecDepth 100000 in
set_option maxHeartbeats 1000000 in
theorem number_ref (v n : Nat) (w : World) (hn : n ≤ 8) (hv : v < 9223372036854775808) :
    Calls Tryz.prog 178 #[.int .i64 (v : Int), .int .i64 (n : Int)] w fun e' w' => e' = .returned (.string (bya (numB n v))) ∧ Below w.heap.size w w' := by
  go_enter Tryz.func178, Tryz.ntmps178
  go_wp2_with fail
  go_loopw [0, 5, 6] (fun x s i wr => ∃ k : Nat, k ≤ n ∧ i = .int .i64 k ∧ s = .string (bya (numB k v)) ∧ x = .int .i64 ((v / 256 ^ k : Nat) : Int) ∧ Below w.heap.size w wr) (fun _ _ i _ => n - (intOf i).toNat)
  case atStart => exact ⟨0, Nat.zero_le _, rfl, rfl, by simp, Below.refl _ _⟩
  case round =>
    obtain ⟨k, hk, rfl, rfl, rfl, hbl⟩ := hrel
    have HBl := hide hbl
    have hwz := hbl.size
    by_cases hlt : k < n
    · have hlt' : (k : Int) < (n : Int) := by omega
      have hq : v / 256 ^ k < 9223372036854775808 := Nat.lt_of_le_of_lt (Nat.div_le_self _ _) hv
      have HE := hide (numB_succ k v)
      have HQ : Hid (v / 256 ^ (k + 1) = v / 256 ^ k / 256) := by unfold Hid; rw [Nat.pow_succ, Nat.div_div_eq_div_mul]
      have kc := byte_str wr (v / 256 ^ k)
      have z1 : (bya (numB k v)).size ≤ 8 := by rw [bya_size, numB_len]; omega
      have z2 : (bya [UInt8.ofNat (v / 256 ^ k % 256)]).size ≤ 8 := by rw [bya_size]; exact Nat.le_of_ble_eq_true rfl
      generalize bya (numB k v) = D1 at *
      generalize bya [UInt8.ofNat (v / 256 ^ k % 256)] = D2 at *
      generalize v / 256 ^ k = q at *
      clear hbl
      go_wp2_with fail
      refine ⟨⟨k + 1, by omega, by go_num, ?_, ?_, HBl.out.alloc hwz _⟩, by simp [intOf]; omega⟩
      · rw [HE.out]
      · rw [HQ.out]; go_num
    · have hlt' : ¬ (k : Int) < (n : Int) := by omega
      obtain rfl : k = n := by omega
      clear hbl
      go_wp2_with fail
      go_ret
      exact ⟨rfl, HBl.out⟩

end Go.Proofs.YtmmflekajbeamabGreatDoor

namespace Go.Proofs.YtmmflekajbeamabGreatDoor
open Go.RowKit Go.Maps

end Go.Proofs.YtmmflekajbeamabGreatDoor

namespace Go.Proofs.YtmmflekajbeamabGreatDoor
open Go.RowKit Go.Maps

theorem zeroI (w : World) : (zeroValue 3).run Tryz.prog w = .ok (.int .i64 0) w := by kernel_rfl

end Go.Proofs.YtmmflekajbeamabGreatDoor

namespace Go.Proofs.YtmmflekajbeamabGreatDoor
open Go.RowKit Go.Maps Go.WideMaps

def exC (e : Ex) : List Value := [.int .i64 (e.1 : Int), .int .i64 (e.2.1 : Int), .int .i64 (e.2.2.1 : Int), .int .i64 (e.2.2.2 : Int)]
def exCs (T : List Ex) : List Value := T.flatMap exC
theorem exCs_snoc (T : List Ex) (e : Ex) : exCs (T ++ [e]) = exCs T ++ exC e := by simp [exCs]
/-- All its numbers are small. -/
def exB (e : Ex) : Prop := e.1 < 4294967296 ∧ e.2.1 < 4294967296 ∧ e.2.2.1 < 4294967296 ∧ e.2.2.2 < 4294967296
theorem okE_B {n : Nat} {e : Ex} (h : okE n e) (hn : n ≤ 1000) : exB e := by
  unfold okE at h
  unfold exB
  omega

/-! ### keys -/
theorem loE : laidOutB Tryz.prog = true := by kernel_rfl
theorem rowE : (251 : TypeId) < Tryz.prog.types.size := of_decide_eq_true (by kernel_rfl)
theorem wideE : (match Tryz.prog.underlying 251 with | some (.array _ _) | some (.struct _) => true | _ => false) = true := by rw [Tryz.underlying251]
set_option maxRecDepth 100000 in
theorem lawE : Keyed Tryz.prog 251 := Keyed.of_law (deep_law_laid loE (m := 2) (by omega) rowE (by kernel_rfl) wideE)
theorem ktE : Tryz.prog.keyType 251 = true := by kernel_rfl
set_option maxRecDepth 100000 in
theorem tsE : ∃ m, Tryz.prog.types.size = m + 1 := ⟨Tryz.prog.types.size - 1, (Nat.succ_pred_eq_of_pos (Nat.lt_of_le_of_lt (Nat.zero_le _) rowE)).symm⟩
theorem csE : Tryz.prog.cellsOf 251 = 4 := by kernel_rfl
theorem csI : Tryz.prog.cellsOf 3 = 1 := by kernel_rfl
def keyE (e : Ex) : Lit := .string (keyBytes [.int .i64 (e.1 : Int), .int .i64 (e.2.1 : Int), .int .i64 (e.2.2.1 : Int), .int .i64 (e.2.2.2 : Int)])
set_option maxRecDepth 100000 in
theorem keyOfE (e : Ex) (h : exB e) : keyOf Tryz.prog 251 (.agg (exC e).toArray) = some (keyE e) := by
  obtain ⟨k, a, b, v⟩ := e
  obtain ⟨h0, h1, h2, h3⟩ := h
  dsimp only at h0 h1 h2 h3
  have w0 : (Lit.int .i64 (k : Int)).wf = true := by refine WalkArith.wf_i64 ?_ <;> omega
  have w1 : (Lit.int .i64 (a : Int)).wf = true := by refine WalkArith.wf_i64 ?_ <;> omega
  have w2 : (Lit.int .i64 (b : Int)).wf = true := by refine WalkArith.wf_i64 ?_ <;> omega
  have w3 : (Lit.int .i64 (v : Int)).wf = true := by refine WalkArith.wf_i64 ?_ <;> omega
  obtain ⟨m, hm⟩ := tsE
  unfold keyOf
  simp only [Tryz.underlying251]
  rw [if_pos (by simp [ktE, Value.formed, Tryz.underlying251, csE, exC]), hm]
  unfold Program.keyLits
  simp only [Tryz.underlying251, Value.cells]
  rw [if_pos (by rw [csE]; exact ⟨rfl, by simp⟩)]
  simp [exC, csI, Program.keyLits, Tryz.underlying3, w0, w1, w2, w3, keyE]
theorem keyE_inj {e e' : Ex} (h : exB e) (h' : exB e') (he : keyE e = keyE e') : e = e' := by
  have h1 := keyOfE e h
  have h2 := keyOfE e' h'
  rw [he] at h1
  have := lawE.inj h1 h2
  obtain ⟨k, a, b, v⟩ := e
  obtain ⟨k', a', b', v'⟩ := e'
  simp [exC] at this
  obtain ⟨q1, q2, q3, q4⟩ := this
  rw [Prod.mk.injEq, Prod.mk.injEq, Prod.mk.injEq]
  exact ⟨by omega, by omega, by omega, by omega⟩

/-- A map's datum tells the numbers. -/
def TabOK (D : DataW Unit) (T : List Ex) : Prop :=
  ∀ e, exB e → (Maps.has D (keyE e) = true ↔ e ∈ T) ∧ ∀ n : Nat, T[n]? = some e → (∀ m : Nat, T[m]? = some e → m = n) → D.atKey (keyE e) (.lit (.int .i64 0)) = .lit (.int .i64 (n : Int))

/-- The table in memory: block N; all of it lies from block B on. -/
structure TabAt (B N : Nat) (T : List Ex) (b : Nat) (v : Value) (w : World) : Prop where
  c0 : w.cell? ⟨N, 0, none⟩ = some (.map (some b))
  c1 : w.cell? ⟨N, 1, none⟩ = some v
  fz : ∀ i, w.frozen? ⟨N, i, none⟩ = false
  bN : B ≤ N
  bb : B ≤ b
  nv : ∀ g, v.ownBlock = some g → g ≠ N
  ls : w.ownsRow B 251 4 v T.length (exCs T)
  mp : ∃ D : DataW Unit, w.ownsMap Tryz.prog 251 (plainElem Tryz.prog 3) b T.length D ∧ TabOK D T
theorem TabAt.nlt {B N : Nat} {T : List Ex} {b : Nat} {v : Value} {w : World} (h : TabAt B N T b v w) : N < w.heap.size := block_lt_of_cell h.c0
theorem TabAt.blt {B N : Nat} {T : List Ex} {b : Nat} {v : Value} {w : World} (h : TabAt B N T b v w) : b < w.heap.size := by
  obtain ⟨D, hm, _⟩ := h.mp
  exact hm.lt
def InT (N b : Nat) (v : Value) (g : Nat) : Prop := g = N ∨ g = b ∨ v.ownBlock = some g
theorem TabAt.inlt {B N : Nat} {T : List Ex} {b : Nat} {v : Value} {w : World} (h : TabAt B N T b v w) {g : Nat} (hg : InT N b v g) : B ≤ g ∧ g < w.heap.size := by
  rcases hg with rfl | rfl | hg
  · exact ⟨h.bN, h.nlt⟩
  · exact ⟨h.bb, h.blt⟩
  · exact row_lt h.ls g hg
theorem TabAt.kept {B N : Nat} {T : List Ex} {b : Nat} {v : Value} {w w' : World} (h : TabAt B N T b v w) (hk : ∀ g, InT N b v g → w'.heap[g]? = w.heap[g]?) : TabAt B N T b v w' := by
  have hN := hk N (.inl rfl)
  refine ⟨(World.cell?_of_block hN).trans h.c0, (World.cell?_of_block hN).trans h.c1, fun i => (World.frozen?_of_block hN).trans (h.fz i), h.bN, h.bb, h.nv, ownsRow_keep h.ls (fun g hg => hk g (.inr (.inr hg))), ?_⟩
  obtain ⟨D, hm, hl⟩ := h.mp
  exact ⟨D, map_keep hm (hk b (.inr (.inl rfl))), hl⟩
theorem TabAt.alloc {B N : Nat} {T : List Ex} {b : Nat} {v : Value} {w : World} (h : TabAt B N T b v w) (o : Obj) : TabAt B N T b v (w.alloc o) :=
  h.kept fun g hg => Below.heap_alloc w o g (h.inlt hg).2
theorem TabAt.drew {B N : Nat} {T : List Ex} {b : Nat} {v : Value} {w : World} (h : TabAt B N T b v w) : TabAt B N T b v w.drew := h.kept fun _ _ => rfl
theorem TabAt.above {B N : Nat} {T : List Ex} {b : Nat} {v : Value} {w w' : World} (h : TabAt B N T b v w) (hb : Below w.heap.size w w') : TabAt B N T b v w' :=
  h.kept fun g hg => hb.block g (h.inlt hg).2
theorem TabAt.setOut {B N : Nat} {T : List Ex} {b : Nat} {v : Value} {w : World} (h : TabAt B N T b v w) {g : Nat} (hg : ¬ InT N b v g) (i : Nat) (u : Value) : TabAt B N T b v (w.setCell ⟨g, i, none⟩ u) :=
  h.kept fun _ hk => heap_set_other w u (fun e => hg (e ▸ hk))
theorem TabAt.apart {B N : Nat} {T : List Ex} {b : Nat} {v : Value} {w : World} (h : TabAt B N T b v w) : N ≠ b ∧ v.ownBlock ≠ some b := by
  obtain ⟨D, hm, _⟩ := h.mp
  obtain ⟨es, cl, hb⟩ := map_of hm
  refine ⟨fun e => ?_, fun e => ?_⟩
  · obtain ⟨c, t, fr, hc⟩ := cells_of_cell h.c0
    rw [e, hb] at hc; cases hc
  · obtain ⟨_, c, t, fr, hc⟩ := ownsRow_cells h.ls b e
    rw [hb] at hc; cases hc
/-- What a call on the table leaves: blocks below B, and all others but N, the map and rows of expressions, are as they were. -/
structure TFr (B N b : Nat) (w w' : World) : Prop where
  below : Below B w w'
  other : ∀ g, g < w.heap.size → g ≠ N → g ≠ b → (∀ cur, w.heap[g]? ≠ some (.cells cur 251 (0, 0))) → w'.heap[g]? = w.heap[g]?
theorem TFr.trans {B N b : Nat} {x y z : World} (h : TFr B N b x y) (k : TFr B N b y z) : TFr B N b x z := by
  refine ⟨h.below.trans k.below, fun g hg h1 h2 h3 => ?_⟩
  have e := h.other g hg h1 h2 h3
  exact (k.other g (Nat.lt_of_lt_of_le hg h.below.size) h1 h2 (fun cur hc => h3 cur (e ▸ hc))).trans e
theorem TFr.above {B N b : Nat} {x y : World} (hB : B ≤ x.heap.size) (h : Below x.heap.size x y) : TFr B N b x y :=
  ⟨h.mono hB, fun g hg _ _ _ => h.block g hg⟩
/-- A key more in the map. -/
theorem TabOK.add {D : DataW Unit} {T : List Ex} (h : TabOK D T) (hD : IsMap D) {e : Ex} (he : exB e) (hn : e ∉ T) : TabOK (D.put (keyE e) (.lit (.int .i64 (T.length : Int)))) (T ++ [e]) := by
  intro e' he'
  obtain ⟨h1, h2⟩ := h e' he'
  by_cases hee : e' = e
  · subst hee
    refine ⟨⟨fun _ => by simp, fun _ => ?_⟩, fun n hn' _ => ?_⟩
    · rw [has_put_same hD (lawE.key (keyOfE e' he'))]
    · rw [atKey_put_same hD (lawE.key (keyOfE e' he'))]
      have : n = T.length := by
        by_cases hl : n < T.length
        · rw [List.getElem?_append_left hl] at hn'
          exact absurd (List.mem_of_getElem? hn') hn
        · have := (List.getElem?_eq_some_iff.1 hn').1
          simp at this
          omega
      rw [this]
  · have hk : keyE e' ≠ keyE e := fun q => hee (keyE_inj he' he q)
    refine ⟨?_, fun n hn' hu => ?_⟩
    · rw [has_put_other hk, h1]
      simp [hee]
    · rw [atKey_put_other hk]
      have hl : n < T.length := by
        by_cases hl : n < T.length
        · exact hl
        · rw [List.getElem?_append_right (by omega)] at hn'
          have h0 := (List.getElem?_eq_some_iff.1 hn').1
          have h00 : n - T.length = 0 := by simp at h0; omega
          rw [h00] at hn'
          simp at hn'
          exact absurd hn'.symm hee
      rw [List.getElem?_append_left hl] at hn'
      exact h2 n hn' (fun m hm => hu m (by rw [List.getElem?_append_left (List.getElem?_eq_some_iff.1 hm).1]; exact hm))
end Go.Proofs.YtmmflekajbeamabGreatDoor

namespace Go.Proofs.YtmmflekajbeamabGreatDoor
open Go.RowKit Go.Maps Go.WideMaps

theorem infoEx : ∃ i, Tryz.prog.info? 251 = some i ∧ i.zero = some (.agg #[.int .i64 0, .int .i64 0, .int .i64 0, .int .i64 0]) ∧ i.size = 4 ∧ i.bytes = 32 := by
  have h : (Tryz.prog.info? 251).map (fun i => (i.zero, i.size, i.bytes)) = some (some (.agg #[.int .i64 0, .int .i64 0, .int .i64 0, .int .i64 0]), 4, 32) := by kernel_rfl
  cases hq : Tryz.prog.info? 251 with
  | none => rw [hq] at h; cases h
  | some i =>
    rw [hq] at h
    simp only [Option.map_some, Option.some.injEq, Prod.mk.injEq] at h
    exact ⟨i, rfl, h.1, h.2.1, h.2.2⟩
/-- Behind a store into the map. -/
theorem TabAt.putM {B N : Nat} {T : List Ex} {b : Nat} {v : Value} {w w1 : World} (h : TabAt B N T b v w) (hg : w.grownBy w1 (some b)) :
    (w1.cell? ⟨N, 0, none⟩ = some (.map (some b)) ∧ w1.cell? ⟨N, 1, none⟩ = some v ∧ (∀ i, w1.frozen? ⟨N, i, none⟩ = false) ∧ w1.ownsRow B 251 4 v T.length (exCs T)) ∧ TFr B N b w w1 := by
  obtain ⟨a1, a2⟩ := h.apart
  have hk : ∀ g, g < w.heap.size → g ≠ b → w1.heap[g]? = w.heap[g]? := fun g hlt hne => hg.block g hlt (fun e => hne (Option.some.inj e))
  have hN := hk N h.nlt a1
  exact ⟨⟨(World.cell?_of_block hN).trans h.c0, (World.cell?_of_block hN).trans h.c1, fun i => (World.frozen?_of_block hN).trans (h.fz i), ownsRow_keep h.ls (fun g hg' => hk g (row_lt h.ls g hg').2 (fun e => a2 (e ▸ hg')))⟩,
    ⟨(Below.refl _ _).grown hg (Nat.le_trans h.bN (Nat.le_of_lt h.nlt)) (fun j hj => by cases hj; exact h.bb), fun g hlt _ h2 _ => hk g hlt h2⟩⟩
/-- Behind a key more in the map, and an append to the list. -/
theorem hold_end {B N : Nat} {T : List Ex} {b : Nat} {v : Value} {w w0 w3 w5 w4 : World} {e : Ex} {D' : DataW Unit} (h : TabAt B N T b v w) (hb0 : Below w.heap.size w w0) (hg3 : w0.grownBy w3 (some b)) (ho3 : w3.ownsMap Tryz.prog 251 (plainElem Tryz.prog 3) b (T.length + 1) D') (hk3 : TabOK D' (T ++ [e]))
    (hb5 : Below w3.heap.size w3 w5) (g cap : Nat) (ho : w4.ownsRow B 251 4 (.slice (some ⟨g, 0, none⟩) (T.length + 1) cap) (T.length + 1) (exCs T ++ exC e)) (hgr : w5.grownBy w4 v.ownBlock) (ha : v.ownBlock = some g ∨ w.heap.size ≤ g) :
    TabAt B N (T ++ [e]) b (.slice (some ⟨g, 0, none⟩) (T.length + 1) cap) (w4.setCell ⟨N, 1, none⟩ (.slice (some ⟨g, 0, none⟩) (T.length + 1) cap)) ∧ TFr B N b w (w4.setCell ⟨N, 1, none⟩ (.slice (some ⟨g, 0, none⟩) (T.length + 1) cap)) := by
  have hBw : B ≤ w.heap.size := Nat.le_trans h.bN (Nat.le_of_lt h.nlt)
  have h0 := h.above hb0
  obtain ⟨a1, a2⟩ := h.apart
  obtain ⟨⟨c0, c1, fz, ls⟩, f3⟩ := h0.putM hg3
  have f03 : TFr B N b w w3 := (TFr.above hBw hb0).trans f3
  have hN3 : N < w3.heap.size := block_lt_of_cell c0
  have hw3 : w.heap.size ≤ w3.heap.size := f03.below.size
  have hk : ∀ k, k < w3.heap.size → v.ownBlock ≠ some k → w4.heap[k]? = w3.heap[k]? := fun k hk hn => (hgr.block k (Nat.lt_of_lt_of_le hk hb5.size) (fun e => hn e.symm)).trans (hb5.block k hk)
  have hN1 := hk N hN3 (fun e => h.nv N e rfl)
  have k1 : ∀ j, w4.cell? ⟨N, j, none⟩ = w3.cell? ⟨N, j, none⟩ := fun j => World.cell?_of_block hN1
  have k2 : ∀ j, w4.frozen? ⟨N, j, none⟩ = w3.frozen? ⟨N, j, none⟩ := fun j => World.frozen?_of_block hN1
  have hgN : g ≠ N := by
    rcases ha with ha | ha
    · exact h.nv g ha
    · have := h.nlt; omega
  have hB5 : B ≤ w5.heap.size := Nat.le_trans hBw (Nat.le_trans hw3 hb5.size)
  have hbel : Below B w (w4.setCell ⟨N, 1, none⟩ (.slice (some ⟨g, 0, none⟩) (T.length + 1) cap)) :=
    ((f03.below.trans (hb5.mono (Nat.le_trans hBw hw3))).grown hgr hB5 (fun k hk => (row_lt h.ls k hk).1)).setCell h.bN _
  generalize hv : Value.slice (some ⟨g, 0, none⟩) (T.length + 1) cap = v' at *
  have hvb : v'.ownBlock = some g := by rw [← hv]; rfl
  have hh : ∀ k, k ≠ N → (w4.setCell ⟨N, 1, none⟩ v').heap[k]? = w4.heap[k]? := fun k hk => heap_set_other _ _ hk
  refine ⟨⟨cell_of_rows ((k1 0).trans c0) (by decide), cell_set_same ((k1 1).trans c1), fun i => by rw [World.frozen?_setCell, k2]; exact fz i, h.bN, h.bb,
    fun k hk => by rw [hvb] at hk; cases hk; exact hgN, ?_, ?_⟩, hbel, fun k hk' h1 h2 h3 => ?_⟩
  · rw [exCs_snoc, List.length_append, List.length_singleton]
    exact ownsRow_keep ho (fun k hk => by rw [hvb] at hk; cases hk; exact hh g hgN)
  · refine ⟨D', ?_, hk3⟩
    rw [List.length_append, List.length_singleton]
    exact map_keep ho3 ((hh b (fun e => a1 e.symm)).trans (hk b ho3.lt a2))
  · have hne : v.ownBlock ≠ some k := fun e => by
      obtain ⟨cur, hc⟩ := ownsRow_kind h.ls k e
      exact h3 cur hc
    exact ((hh k h1).trans (hk k (Nat.lt_of_lt_of_le hk' hw3) hne)).trans (f03.other k hk' h1 h2 h3)
/-- What a holding leaves: the number, and the table that tells it. -/
def HoldPost (B N b : Nat) (T : List Ex) (w : World) (e : Ex) (e' : Ending) (w' : World) : Prop :=
  ∃ n T' v', e' = .returned (.int .i64 ((n : Nat) : Int)) ∧ TabAt B N T' b v' w' ∧ TFr B N b w w' ∧ ((T' = T ∧ T[n]? = some e) ∨ (T' = T ++ [e] ∧ n = T.length ∧ e ∉ T))
theorem nodup_at {T : List Ex} {ds : List (List UInt8)} (h : TI T ds) {n : Nat} {e : Ex} (hn : T[n]? = some e) : ∀ m : Nat, T[m]? = some e → m = n := fun m hm => h.one m n e hm hn

set_option maxRecDepth 100000 in
set_option maxHeartbeats 2000000 in
theorem hold_any (B N : Nat) (T : List Ex) (ds : List (List UInt8)) (b : Nat) (v : Value) (e : Ex) (w : World) (h : TabAt B N T b v w) (hT : TI T ds) (he : exB e) (hl : T.length ≤ 1000) :
    Calls Tryz.prog 186 #[.pointer (some ⟨N, 0, none⟩), .agg (exC e).toArray] w (HoldPost B N b T w e) := by
  have hNlt := h.nlt
  have hBw : B ≤ w.heap.size := Nat.le_trans h.bN (Nat.le_of_lt hNlt)
  have HP := hide h
  have HK := hide (keyOfE e he)
  obtain ⟨D, hown, htok⟩ := h.mp
  have hD := hown.isMap
  have c0 := h.c0; have c1 := h.c1
  obtain ⟨hh1, hh2⟩ := htok e he
  have HTok := hide htok; have HD := hide hD
  have hlook := fun o => ((hown.alloc o).drew).look_ok lawE Tryz.underlying137 (zeroI _) (plainElem_int (H := Unit) Tryz.underlying3 (a := 0) (by decide)) (keyOfE e he)
  obtain ⟨va, vc, rfl⟩ := owns_len h.ls
  have HOwn := hide hown
  have HE := hide he
  have hni : ¬ InT N b (.slice va T.length vc) w.heap.size := fun hi => by have := (h.inlt hi).2; omega
  have HNi := hide hni
  by_cases hm : e ∈ T
  · obtain ⟨n, hn⟩ := List.getElem?_of_mem hm
    have hat := hh2 n hn (nodup_at hT hn)
    have hlook2 : ∀ o, (Instr.lookup 137 (.map (some b)) (.agg (exC e).toArray) true).run Tryz.prog ((w.alloc o).drew) = .ok (.tuple #[.int .i64 (n : Int), .bool true]) ((w.alloc o).drew) := fun o => by
      obtain ⟨x, ps', hrun, hx⟩ := hlook o
      rw [hh1.2 hm] at hrun
      obtain ⟨a, rfl, ha, _⟩ := plainElem_int_inv Tryz.underlying3 hx
      rw [hat] at ha
      cases ha
      exact hrun
    have HR : Hid (∀ o : Obj, HoldPost B N b T w e (.returned (.int .i64 (n : Int))) (w.alloc o).drew) := fun o => ⟨n, T, _, rfl, (HP.out.alloc o).drew, TFr.above hBw ((Below.refl _ _).alloc (Nat.le_refl _) o).drew, .inl ⟨rfl, hn⟩⟩
    obtain ⟨k, a, b', x⟩ := e
    simp only [exC] at hlook2 ⊢
    have hrun := hlook2 (.cells #[.int .i64 (k : Int), .int .i64 (a : Int), .int .i64 (b' : Int), .int .i64 (x : Int)] 251)
    clear hlook hlook2 hh1 hh2 hm hn hat h hown htok hD hT he hni
    go_enter Tryz.func186, Tryz.ntmps186
    go_wp2_with fail
    refine still_all (by kernel_rfl) (by kernel_rfl) ?_
    repeat still_step
    refine wpStill_nil ?_
    go_wp2_with fail
    go_ret
    exact HR.out _
  · have hf : Maps.has D (keyE e) = false := by
      cases hq : Maps.has D (keyE e)
      · rfl
      · exact absurd (hh1.1 hq) hm
    have hlook2 : ∀ o, ∃ x, (Instr.lookup 137 (.map (some b)) (.agg (exC e).toArray) true).run Tryz.prog ((w.alloc o).drew) = .ok (.tuple #[x, .bool false]) ((w.alloc o).drew) := fun o => by
      obtain ⟨x, ps', hrun, hx⟩ := hlook o
      rw [hf] at hrun
      exact ⟨x, hrun⟩
    have HM := hide hm
    have hl' : T.length < maxLen := by unfold maxLen; omega
    have hw64 : (Lit.int .i64 (T.length : Int)).wf = true := by
      refine WalkArith.wf_i64 ?_ <;> omega
    obtain ⟨inf, hinf, hz, hsz1, hby⟩ := infoEx
    have HInf := hide hinf; have HZ := hide hz; have HSz := hide hsz1; have HBy := hide hby
    have HTk := hide (HTok.out.add HD.out HE.out HM.out)
    have HC : Hid (exC e = [.int .i64 (e.1 : Int), .int .i64 (e.2.1 : Int), .int .i64 (e.2.2.1 : Int), .int .i64 (e.2.2.2 : Int)]) := rfl
    obtain ⟨x, hrun⟩ := hlook2 (.cells (exC e).toArray 251)
    have HPd := hide ((HP.out.alloc (.cells (exC e).toArray 251)).drew.drew)
    have HOd := hide (((HOwn.out.alloc (.cells (exC e).toArray 251)).drew).drew)
    have HF0 : Hid ((w.alloc (.cells (exC e).toArray 251)).heap[w.heap.size]? = some (.cells (exC e).toArray 251)) := _root_.Go.heap_alloc_new w _
    have HB0 : Hid (Below w.heap.size w (w.alloc (.cells (exC e).toArray 251)).drew.drew) := ((Below.refl _ _).alloc (Nat.le_refl _) _).drew.drew
    clear hlook hlook2 hh1 hh2 hm hf h hown htok hD hT he hni hinf hz hsz1 hby
    obtain ⟨k, a, b', y⟩ := e
    simp only [exC] at *
    go_enter Tryz.func186, Tryz.ntmps186
    go_wp2_with fail
    refine still_all (by kernel_rfl) (by kernel_rfl) ?_
    repeat still_step
    refine wpStill_nil ?_
    go_wp2_with fail
    refine still_tail 6 (by kernel_rfl) (by kernel_rfl) ?_
    simp only [List.take_succ_cons, List.take_zero, List.drop_succ_cons, List.drop_zero]
    repeat still_step
    refine wpStill_nil ?_
    go_wp2_with (at_mapUpdate; refine wpList_mapUpdate_own _ rfl _ _ _ 137 rfl 251 3 lawE Tryz.underlying137 _ b T.length D rfl HOd.out hl' _ _ (keyE (k, a, b', y)) rfl rfl HK.out (.lit (.int .i64 (T.length : Int))) [] (plainElem_int Tryz.underlying3 hw64) ?_; intro w3 hown3 hgr3; have H3 := hide hown3; have HG3 := hide hgr3; clear hown3 hgr3)
    have hz3 : w.heap.size < w3.heap.size := Nat.lt_of_lt_of_le (by show w.heap.size < (w.alloc _).heap.size; rw [size_alloc1]; omega) HG3.out.size
    obtain ⟨⟨d0, d1, dfz, dls⟩, _⟩ := HPd.out.putM HG3.out
    have HLs := hide dls
    have hNb : w.heap.size ≠ b := fun e => HNi.out (.inr (.inl e))
    have hNN : w.heap.size ≠ N := fun e => by omega
    have hblk : w3.heap[w.heap.size]? = some (.cells #[.int .i64 (k : Int), .int .i64 (a : Int), .int .i64 (b' : Int), .int .i64 (y : Int)] 251) := (HG3.out.block w.heap.size (by show w.heap.size < (w.alloc _).heap.size; rw [size_alloc1]; omega) (fun e => hNb (Option.some.inj e))).trans HF0.out
    have q0 : w3.cell? ⟨w.heap.size, 0, none⟩ = some (.int .i64 (k : Int)) := by simp [World.cell?, hblk]
    have q1 : w3.cell? ⟨w.heap.size, 1, none⟩ = some (.int .i64 (a : Int)) := by simp [World.cell?, hblk]
    have q2 : w3.cell? ⟨w.heap.size, 2, none⟩ = some (.int .i64 (b' : Int)) := by simp [World.cell?, hblk]
    have q3 : w3.cell? ⟨w.heap.size, 3, none⟩ = some (.int .i64 (y : Int)) := by simp [World.cell?, hblk]
    have hN3 : N < w3.heap.size := block_lt_of_cell d0
    clear dls hrun hblk
    refine held_tail 6 2 (fun w' => w'.cell? ⟨N, 1, none⟩ = some (.slice va T.length vc) ∧ w'.cell? ⟨w.heap.size, 0, none⟩ = some (.int .i64 (k : Int)) ∧ w'.cell? ⟨w.heap.size, 1, none⟩ = some (.int .i64 (a : Int)) ∧ w'.cell? ⟨w.heap.size, 2, none⟩ = some (.int .i64 (b' : Int)) ∧ w'.cell? ⟨w.heap.size, 3, none⟩ = some (.int .i64 (y : Int))) (by kernel_rfl) (by kernel_rfl) (fun d _ _ _ _ h => by cases d <;> exact h) ⟨d1, q0, q1, q2, q3⟩ ?_
    simp only [List.take_succ_cons, List.take_zero, List.drop_succ_cons, List.drop_zero]
    iterate 6
      refine wpTake_step ?_ rfl ?_ ?_
      rotate_left
      · rintro w' ⟨e1, f0, f1, f2, f3⟩
        go_simp
        rfl
      go_simp
    refine wpTake_nil ?_
    refine wpTail_step rfl (fun K hK => ?_)
    go_simp
    refine hK _ _ ⟨(cellD w3 _ hN3 1).trans d1, (cellD w3 _ hz3 0).trans q0, (cellD w3 _ hz3 1).trans q1, (cellD w3 _ hz3 2).trans q2, (cellD w3 _ hz3 3).trans q3⟩ ?_
    clear hK K
    refine wpTail_step rfl (fun K hK => ?_)
    have HO5 : Hid (((w3.alloc (.cells #[.int .i64 (k : Int), .int .i64 (a : Int), .int .i64 (b' : Int), .int .i64 (y : Int)] 251)).drew).ownsRow B 251 4 (.slice va T.length vc) T.length (exCs T)) := ownsRow_keep HLs.out (fun g hg => Below.heap_alloc w3 _ g (row_lt HLs.out g hg).2)
    refine wp_append_lies _ _ _ 138 rfl B 251 inf _ 4 32 Tryz.underlying138 HInf.out HZ.out HSz.out HBy.out rfl (by decide) (.slice va T.length vc) T.length (exCs T) rfl HO5.out ⟨w3.heap.size, 0, none⟩ 1 1 (exC (k, a, b', y)) rfl rfl (World.news_of_block (_root_.Go.heap_alloc_new w3 _)) (fun u hu => by simp [exC] at hu; rcases hu with rfl | rfl | rfl | rfl <;> rfl) (by decide) (by unfold maxLen; omega) (by omega) (by show B ≤ (w3.alloc _).heap.size; rw [size_alloc1]; omega) (w3.heap.size + 1) (by show (w3.alloc _).heap.size = _; rw [size_alloc1]) ?_
    intro g cap w4 hown4 hgr4 hat4 hlt4
    have HE4 := hide (hold_end HP.out HB0.out HG3.out H3.out HTk.out (((Below.refl _ _).alloc (Nat.le_refl _) _).drew) g cap hown4 hgr4 (hat4.imp id (fun q => by omega)))
    have hNo : some N ≠ (Value.slice va T.length vc).ownBlock := fun q => HP.out.nv N q.symm rfl
    have hwo : some w.heap.size ≠ (Value.slice va T.length vc).ownBlock := fun q => HNi.out (.inr (.inr q.symm))
    have k1 : ∀ j, w4.cell? ⟨N, j, none⟩ = w3.cell? ⟨N, j, none⟩ := fun j => by
      rw [hgr4.cell_far ⟨N, j, none⟩ (by show N < (w3.alloc _).heap.size; rw [size_alloc1]; omega) hNo]
      exact World.cell?_of_block (Below.heap_alloc w3 _ N hN3)
    have k2 : ∀ j, w4.frozen? ⟨N, j, none⟩ = false := fun j => by
      rw [hgr4.frozen_far ⟨N, j, none⟩ (by show N < (w3.alloc _).heap.size; rw [size_alloc1]; omega) hNo]
      exact (World.frozen?_of_block (w := w3) (Below.heap_alloc w3 _ N hN3)).trans (dfz j)
    have k3 : ∀ j, w4.cell? ⟨w.heap.size, j, none⟩ = w3.cell? ⟨w.heap.size, j, none⟩ := fun j => by
      rw [hgr4.cell_far ⟨w.heap.size, j, none⟩ (by show w.heap.size < (w3.alloc _).heap.size; rw [size_alloc1]; omega) hwo]
      exact World.cell?_of_block (Below.heap_alloc w3 _ w.heap.size hz3)
    refine hK _ _ ⟨(k1 1).trans d1, (k3 0).trans q0, (k3 1).trans q1, (k3 2).trans q2, (k3 3).trans q3⟩ ?_
    have k10 := (k1 0).trans d0
    have k11 := (k1 1).trans d1
    clear hown4 hgr4 hat4 hK K k1 k3 dfz d0 d1 q0 q1 q2 q3
    unfold wpTailS
    go_wp2_with fail
    go_ret
    exact ⟨T.length, T ++ [(k, a, b', y)], _, rfl, HE4.out.1, HE4.out.2, .inr ⟨rfl, rfl, HM.out⟩⟩
end Go.Proofs.YtmmflekajbeamabGreatDoor
