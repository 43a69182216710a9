/-
  The law's book of puts: its looks (lookPuts, looks); Puts against the document's (putsOf).
  THE LAW Plans, walked: it answers true, for every two texts and every state.
-/
import Derived.Test.YtmmflekajbeamaaDoorP30
import Derived.Test.YtmmflekajbeamaaDoorP23
import Derived.Test.YtmmflekajbeamaaDoorP26
import Derived.Test.YtmmflekajbeamaaDoorP29
import Derived.Deep.MidRow
namespace Go.Proofs.YtmmflekajbeamaaDoor
open Go.RowKit

abbrev BookP (N : Nat) (vs : List Value) (vi : Value) (w : World) : Prop := BookF 1 61 59 5 pmq N vs vi w

set_option maxRecDepth 100000 in
set_option maxHeartbeats 4000000 in
theorem lookPuts_f (N : Nat) (vs : List Value) (vi : Value) (w : World) (h : BookP N vs vi w) (hl : vs.length ≤ 400) :
    Calls Tryd.prog 43 #[.pointer (some ⟨N, 0, none⟩)] w fun e' w' => e' = .returned (.bool true) ∧ Below w.heap.size w w' := by
  obtain ⟨ia, ic, rfl⟩ := owns_len h.row
  have H := hide h
  have hNl := h.nlt
  have c1w := h.cf
  clear h
  go_enter Tryd.func43, Tryd.ntmps43
  go_wp2_with fail
  go_loopw [3] (fun i wr => ∃ k : Nat, k ≤ vs.length ∧ i = .int .i64 k ∧ Below w.heap.size w wr) (fun i _ => vs.length - (intOf i).toNat)
  case atStart => exact ⟨0, Nat.zero_le _, rfl, Below.refl _ _⟩
  case round =>
    obtain ⟨k, hk, rfl, hbl⟩ := hrel
    have HBl := hide hbl
    have hwz := hbl.size
    have HR := hide (H.out.above hbl)
    have c1 := HR.out.cf
    clear c1w
    by_cases hlt : k < vs.length
    · have hlt' : (k : Int) < (vs.length : Int) := by omega
      obtain ⟨g, c, hf, _, hgl⟩ := HR.out.row.form (by omega)
      cases hf
      obtain ⟨v, hv⟩ : ∃ v, vs[k]? = some v := ⟨vs[k], by simp [hlt]⟩
      have hcell : wr.cell? ⟨g, k, none⟩ = some v := (HR.out.row.cellAt k (by omega)).trans hv
      obtain ⟨a, n, cc, rfl, hnb, hms⟩ := HR.out.ms k v hv
      have HMs := hide hms
      clear hms hv hbl
      have HMk2 := hide (fun w' => markPut_any ((k : Int) / 4 * 4) w' (by omega) (by omega))
      have hme : -1000 - (k : Int) / 4 * 4 = -1000 - 4 * ((k / 4 : Nat) : Int) := by omega
      rw [hme] at HMk2
      unfold pmq at HMs
      generalize -1000 - 4 * ((k / 4 : Nat) : Int) = m at *
      clear hme
      have hNr := HR.out.nlt
      go_wp2_with fail
      refine (unhide HMk2 _).mono ?_
      rintro e w1 ⟨rfl, hb1⟩
      have hs1 := hb1.size
      obtain ⟨W, hW⟩ : ∃ W, W = w1.alloc (.cells #[.int .i64 m, .int .i64 m, .int .i64 0, .int .i64 0, .int .i64 0] 59) := ⟨_, rfl⟩
      have HWe := hide hW
      have hbW : Below wr.heap.size wr W := by rw [hW]; exact hb1.alloc hs1 _
      have HBW := hide hbW
      have HBx : Hid (BoxG 59 (pmk m) W w1.heap.size) := by unfold Hid; rw [hW]; exact _root_.Go.heap_alloc_new w1 _
      have hsW : W.heap.size = w1.heap.size + 1 := by rw [hW, size_alloc1]
      clear hb1 hbW hW
      go_wp2_with fail
      rw [← HWe.out]
      obtain ⟨wo, hwo⟩ : ∃ wo, wo = wr := ⟨_, rfl⟩
      subst hwo
      go_loopw [5] (fun j wr2 => ∃ i : Nat, i ≤ n ∧ j = .int .i64 i ∧ Below W.heap.size W wr2) (fun j _ => n - (intOf j).toNat)
      case atStart => exact ⟨0, Nat.zero_le _, rfl, Below.refl _ _⟩
      case round =>
        obtain ⟨wr2, hwr2⟩ : ∃ wr2, wr2 = wr := ⟨_, rfl⟩
        subst hwr2
        obtain ⟨i, hi, rfl, hb2⟩ := hrel
        have HB2 := hide hb2
        have hrr : Below wo.heap.size wo wr2 := HBW.out.trans (hb2.mono HBW.out.size)
        have d1 := (below_cell' hrr N 1 hNr).trans c1
        have d2 := (below_cell' hrr g k hgl).trans hcell
        obtain ⟨x0, x1, x2, x3, x4⟩ := pbox_cells (HBx.out.below hb2)
        by_cases hin : i < n
        · have hin' : (i : Int) < (n : Int) := by omega
          obtain ⟨g2, cur, rfl, hg2, hcur⟩ := HMs.out (by omega)
          have hg2' : wr2.heap[g2]? = some (.cells cur 59 (0, 0)) := (hrr.block g2 (Array.getElem?_eq_some_iff.1 hg2).1).trans hg2
          have ce : ∀ j u, j < 5 → (pmk m)[j]? = some u → wr2.cell? ⟨g2, i * 5 + j, none⟩ = some u := fun j u hj hu => by
            rw [cell_of_row wr2 g2 (i * 5 + j) cur _ _ hg2']
            exact hcur (i * 5 + j) u (by omega) (by rw [show (i * 5 + j) % 5 = j by omega]; exact hu)
          have y0 : wr2.cell? ⟨g2, i * 5, none⟩ = some (.int .i64 m) := ce 0 _ (by decide) rfl
          have y1 : wr2.cell? ⟨g2, i * 5 + 1, none⟩ = some (.int .i64 m) := ce 1 _ (by decide) rfl
          have y2 : wr2.cell? ⟨g2, i * 5 + 1 + 1, none⟩ = some (.int .i64 0) := ce 2 _ (by decide) rfl
          have y3 : wr2.cell? ⟨g2, i * 5 + 1 + 1 + 1, none⟩ = some (.int .i64 0) := ce 3 _ (by decide) rfl
          have y4 : wr2.cell? ⟨g2, i * 5 + 1 + 1 + 1 + 1, none⟩ = some (.int .i64 0) := ce 4 _ (by decide) rfl
          clear hg2 hcur hg2' ce hb2 hrr c1 hcell
          go_wp2_with fail
          go_quiet (fail)
          go_wp2_with fail
          exact ⟨⟨i + 1, by omega, by go_num, below_drewN HB2.out nq⟩, by simp [intOf]; omega⟩
        · have hin' : ¬ (i : Int) < (n : Int) := by omega
          have HE : Hid (Below w.heap.size w wr2) := HBl.out.trans (hrr.mono hwz)
          clear hb2 hrr c1 hcell
          go_wp2_with fail
          exact ⟨⟨k + 1, by omega, by go_num, HE.out⟩, by simp [intOf]; omega⟩
    · have hlt' : ¬ (k : Int) < (vs.length : Int) := by omega
      clear hbl
      go_wp2_with fail
      go_ret
      exact ⟨rfl, HBl.out⟩

set_option maxRecDepth 100000 in
set_option maxHeartbeats 2000000 in
theorem lookInts_nil (N : Nat) (w : World) (c0 : w.cell? ⟨N, 0, none⟩ = some (.slice none 0 0)) :
    Calls Tryd.prog 42 #[.pointer (some ⟨N, 0, none⟩)] w fun e' w' => e' = .returned (.bool true) ∧ w' = w := by
  go_enter Tryd.func42, Tryd.ntmps42
  go_wp2_with fail
  go_loop [3] (fun i => i = .int .i64 0) (fun _ => 0)
  case atStart => rfl
  case round =>
    subst hrel
    go_wp2_with fail
    go_ret
    exact ⟨rfl, rfl⟩
set_option maxRecDepth 100000 in
set_option maxHeartbeats 2000000 in
theorem lookPlans_nil (N : Nat) (w : World) (c2 : w.cell? ⟨N, 2, none⟩ = some (.slice none 0 0)) :
    Calls Tryd.prog 44 #[.pointer (some ⟨N, 0, none⟩)] w fun e' w' => e' = .returned (.bool true) ∧ w' = w := by
  go_enter Tryd.func44, Tryd.ntmps44
  go_wp2_with fail
  go_loop [3] (fun i => i = .int .i64 0) (fun _ => 0)
  case atStart => rfl
  case round =>
    subst hrel
    go_wp2_with fail
    go_ret
    exact ⟨rfl, rfl⟩
set_option maxRecDepth 100000 in
set_option maxHeartbeats 2000000 in
theorem looks_puts (N : Nat) (vs : List Value) (vi : Value) (w : World) (h : BookP N vs vi w) (hl : vs.length ≤ 400) :
    Calls Tryd.prog 13 #[.pointer (some ⟨N, 0, none⟩)] w fun e' w' => e' = .returned (.bool true) ∧ Below w.heap.size w w' := by
  have HI := hide (lookInts_nil N w (h.cn 0 (by decide) (by decide)))
  have HP := hide (lookPuts_f N vs vi w h hl)
  have H := hide h
  clear h
  go_enter Tryd.func13, Tryd.ntmps13
  go_wp2_with fail
  refine (unhide HI).mono ?_
  rintro e w' ⟨rfl, hw⟩
  obtain rfl := hw.symm
  go_wp2_with fail
  refine (unhide HP).mono ?_
  rintro e w1 ⟨rfl, hb1⟩
  have HL := hide (lookPlans_nil N w1 ((H.out.above hb1).cn 2 (by decide) (by decide)))
  have HB := hide hb1
  clear hb1
  go_wp2_with fail
  refine (unhide HL).mono ?_
  rintro e w' ⟨rfl, hw⟩
  obtain rfl := hw.symm
  go_wp2_with fail
  go_ret
  exact ⟨rfl, HB.out⟩

set_option maxRecDepth 100000 in
set_option maxHeartbeats 4000000 in
theorem putsOf_any (s : ByteArray) (N q : Nat) (vs : List Value) (vi : Value) (w : World) (h : BookP N vs vi w) (hq : vs.length = 4 * q) (hq2 : q ≤ 100) (hsm : s.size ≤ maxLen) :
    Calls Tryd.prog 18 #[.pointer (some ⟨N, 0, none⟩), .string s] w fun e' w' => e' = .returned (.bool true) ∧ (∃ vs' vi', BookP N vs' vi' w' ∧ vs'.length = 4 * (q + 1)) ∧ Below N w w' := by
  have HC := hide (cribPuts_any s w hsm)
  have HD := hide (fun w' => refPuts_any s w' hsm)
  have HH := hide h
  have HQ := hide hq
  clear h hq
  go_enter Tryd.func18, Tryd.ntmps18
  go_wp2_with fail
  refine (unhide HC).mono ?_
  rintro e w1 ⟨hb1, ⟨hok, v1, rfl, ho1⟩ | ⟨hno, rfl⟩⟩
  · have HB1 := hide hb1; have HO1 := hide ho1; have HOk := hide hok
    have hz1 := hb1.size
    clear hb1 ho1 hok HC
    go_wp2_with fail
    refine (unhide HD _).mono ?_
    rintro e w2 ⟨hb2, ⟨hok2, v2, rfl, ho2⟩ | ⟨hno2, rfl⟩⟩
    · have HB2 := hide hb2; have HO2 := hide ho2
      have hz2 := hb2.size
      have h10 : s.size / 8 ≤ 10 := by have := HOk.out.2.1; omega
      have hln : (putL s (s.size / 8)).length = s.size / 8 := putL_len s _
      have HO1' : Hid (w2.ownsRow w.heap.size 59 5 v1 (putL s (s.size / 8)).length (putCs (putL s (s.size / 8)))) := by unfold Hid; rw [hln]; exact own_grow HO1.out hb2
      have HSm := hide (samePuts_yes v1 v2 w.heap.size w1.heap.size (putL s (s.size / 8)) w2 HO1'.out (by rw [hln]; exact ho2) (by omega))
      obtain ⟨va, vc, rfl⟩ := owns_len HO1.out
      clear hb2 ho2 HD hok2
      go_wp2_with fail
      refine (unhide HSm).mono ?_
      rintro e w3 ⟨rfl, hb3⟩
      have HBw : Hid (Below w.heap.size w w3) := (HB1.out.trans (HB2.out.mono hz1)).trans (hb3.mono (by omega))
      have HKp := hide (keepPuts_any N q vs vi w w3 HH.out HBw.out HQ.out hq2 (.slice va (s.size / 8) vc) (putL s (s.size / 8)) (own_grow HO1'.out hb3) (by omega))
      have HNm := hide (fun w' => num_any 0 w')
      clear hb3 HSm
      go_wp2_with fail
      refine (unhide HNm _).mono ?_
      rintro e w' ⟨rfl, hw'⟩
      obtain rfl := hw'.symm
      have hlen : ((s.size : Int) / 8 == 0) = true ∨ ((s.size : Int) / 8 == 0) = false := by
        cases ((s.size : Int) / 8 == 0)
        · exact .inr rfl
        · exact .inl rfl
      rcases hlen with hlen | hlen
      all_goals
        go_wp2_with fail
        refine (unhide HKp).mono ?_
        rintro e w4 ⟨rfl, hbk, hbelow⟩
        have HBk := hide hbk; have HBe := hide hbelow
        clear hbk hbelow HKp
        go_wp2_with fail
        go_ret
        exact ⟨rfl, HBk.out, HBe.out⟩
    · exact absurd HOk.out hno2
  · have HB1 := hide hb1; have HNo := hide hno
    have hz1 := hb1.size
    clear hb1 hno HC
    go_wp2_with fail
    refine (unhide HD _).mono ?_
    rintro e w2 ⟨hb2, ⟨hok2, v2, rfl, ho2⟩ | ⟨hno2, rfl⟩⟩
    · exact absurd hok2 HNo.out
    · have HB2 := hide hb2
      have hz2 := hb2.size
      have HV : Hid (w2.ownsRow w.heap.size 59 5 (.slice none 0 0) ([] : List PutN).length (putCs [])) := World.ownsRow_nil _ _ _ _
      have HV2 : Hid (w2.ownsRow w1.heap.size 59 5 (.slice none 0 0) ([] : List PutN).length (putCs [])) := World.ownsRow_nil _ _ _ _
      have HSm := hide (samePuts_yes (.slice none 0 0) (.slice none 0 0) w.heap.size w1.heap.size [] w2 HV.out HV2.out (by decide))
      clear hb2 HD hno2
      go_wp2_with fail
      refine (unhide HSm).mono ?_
      rintro e w3 ⟨rfl, hb3⟩
      have HBw : Hid (Below w.heap.size w w3) := (HB1.out.trans (HB2.out.mono hz1)).trans (hb3.mono (by omega))
      have HKp := hide (keepPuts_any N q vs vi w w3 HH.out HBw.out HQ.out hq2 (.slice none 0 0) [] (own_grow HV.out hb3) (by decide))
      have HNm := hide (fun w' => num_any 11 w')
      clear hb3 HSm
      go_wp2_with fail
      refine (unhide HNm _).mono ?_
      rintro e w' ⟨rfl, hw'⟩
      obtain rfl := hw'.symm
      go_wp2_with fail
      refine (unhide HKp).mono ?_
      rintro e w4 ⟨rfl, hbk, hbelow⟩
      have HBk := hide hbk; have HBe := hide hbelow
      clear hbk hbelow HKp
      go_wp2_with fail
      go_ret
      exact ⟨rfl, HBk.out, HBe.out⟩
end Go.Proofs.YtmmflekajbeamaaDoor

namespace Go.Proofs.YtmmflekajbeamaaDoor
open Go.RowKit

set_option maxRecDepth 100000 in
set_option maxHeartbeats 2000000 in
theorem accepts_any (s p : ByteArray) (w : World) (ht : Tab w) (hs : s.size ≤ maxLen) (hp : p.size ≤ maxLen) :
    Calls Tryd.prog 20 #[.string s, .string p] w fun e' w' => e' = .returned (.bool true) ∧ Below w.heap.size w w' := by
  have H1 := hide (cribAccept_any s p w ht hs hp)
  have H2 := hide (fun w' => refAccept_any s p w' hs hp)
  clear ht
  go_enter Tryd.func20, Tryd.ntmps20
  go_wp2_with fail
  refine (unhide H1).mono ?_
  rintro e w1 ⟨hb1, n, rfl, hn⟩
  have HB1 := hide hb1; have HN := hide hn
  have hz1 := hb1.size
  clear hb1 hn H1
  go_wp2_with fail
  refine (unhide H2 _).mono ?_
  rintro e w2 ⟨hb2, m, rfl, hm⟩
  obtain rfl := HN.out.one hm
  have HB2 : Hid (Below w.heap.size w w2) := HB1.out.trans (hb2.mono hz1)
  have HNm := hide (fun w' => num_any n w')
  clear hb2 hm H2
  go_wp2_with fail
  refine (unhide HNm _).mono ?_
  rintro e w' ⟨rfl, hw'⟩
  obtain rfl := hw'.symm
  go_wp2_with fail
  go_ret
  exact ⟨ret_bool (by simp), HB2.out⟩

theorem DoPost.one {p : ByteArray} {regs mem : List Int} {w1 w2 w1' w2' : World} {e1 e2 : Ending} (h1 : DoPost p regs mem w1 e1 w1') (h2 : DoPost p regs mem w2 e2 w2') : e1 = e2 := by
  obtain ⟨_, ⟨a, rfl⟩ | ⟨a, b, rfl⟩ | ⟨a, b, rfl⟩⟩ := h1 <;> obtain ⟨_, ⟨c, rfl⟩ | ⟨c, d, rfl⟩ | ⟨c, d, rfl⟩⟩ := h2
  all_goals first | rfl | exact absurd a c | exact absurd c a | exact absurd b d | exact absurd d b
theorem DoPost.form {p : ByteArray} {regs mem : List Int} {w w' : World} {e : Ending} (hr : regs.length = 8) (hm : mem.length = 128) (h : DoPost p regs mem w e w') : ∃ z n, e = .returned (.tuple #[.agg (S z), .int .i64 n]) ∧ z.length = 8 := by
  obtain ⟨hb, ⟨h1, rfl⟩ | ⟨h1, h2, rfl⟩ | ⟨h1, h2, rfl⟩⟩ := h
  · exact ⟨_, _, rfl, zr_len 8⟩
  · exact ⟨_, _, rfl, zr_len 8⟩
  · refine ⟨_, _, rfl, ?_⟩
    have hl : ((putL p (p.size / 8)).foldl (stD mem) (begD regs)).length = 16 := by
      have := (WL.fold (allW_WL h1.2 hm) (putL_ok h2) (putL p (p.size / 8)).length (begD regs) (Nat.le_refl _) (WL.beg (allW_WL h1.1 hr))).1
      rw [List.take_length] at this
      exact this
    unfold doL
    rw [List.length_take, hl]
    rfl
theorem range_row {w : World} {g : Nat} {t : TypeId} {z : List Int} (h : RowI w g t z) (o k : Nat) (ho : o + k ≤ z.length) : w.rangeAt g o (((z.drop o).take k).map (Value.int .i64)) := by
  intro j v hj
  have hlt := (List.getElem?_eq_some_iff.1 hj).1
  simp only [List.length_map, List.length_take, List.length_drop] at hlt
  rw [h.cell (o + j) (by omega)]
  rw [List.getElem?_map, List.getElem?_take, if_pos (by omega), List.getElem?_drop] at hj
  unfold gz
  rw [List.getD_eq_getElem?_getD]
  cases hq : z[o + j]? with
  | none => rw [hq] at hj; cases hj
  | some y => rw [hq] at hj; exact hj

set_option maxRecDepth 100000 in
set_option maxHeartbeats 2000000 in
theorem does_any (p : ByteArray) (z : List Int) (w : World) (hz : z.length = 138) (hp : p.size ≤ maxLen) :
    Calls Tryd.prog 19 #[.string p, .agg (S z)] w fun e' w' => e' = .returned (.bool true) ∧ Below w.heap.size w w' := by
  have z8 := zero8
  have hr : ((z.drop 0).take 8).length = 8 := by simp [hz]
  have hm : ((z.drop 8).take 128).length = 128 := by simp [hz]
  have H1 := hide (fun w' => cribDo_any p ((z.drop 0).take 8) ((z.drop 8).take 128) w' hr hm hp)
  have H2 := hide (fun w' => refDo_any p ((z.drop 0).take 8) ((z.drop 8).take 128) w' hr hm hp)
  have HR : Hid (RowI (w.alloc (.cells (S z) 34)) w.heap.size 34 z) := _root_.Go.heap_alloc_new w _
  have HB0 := hide ((Below.refl w.heap.size w).alloc (Nat.le_refl _) (.cells (S z) 34))
  have s8 : (Tryd.prog.info? 31).map (·.size) = some (((z.drop 0).take 8).map (Value.int .i64)).length := by rw [size8, List.length_map, hr]
  have s128 : (Tryd.prog.info? 32).map (·.size) = some (((z.drop 8).take 128).map (Value.int .i64)).length := by rw [size128, List.length_map, hm]
  have HS8 := hide s8; have HS128 := hide s128
  clear s8 s128
  have HF := hide (fun w1 w1' e => DoPost.form (p := p) (w := w1) (w' := w1') (e := e) hr hm)
  have HRg := hide (fun w' (h : RowI w' w.heap.size 34 z) => range_row h 0 8 (by omega))
  have HRm := hide (fun w' (h : RowI w' w.heap.size 34 z) => range_row h 8 128 (by omega))
  clear hr hm
  generalize hrg : (z.drop 0).take 8 = rg at *
  generalize hmg : (z.drop 8).take 128 = mg at *
  clear hrg hmg
  go_enter Tryd.func19, Tryd.ntmps19
  go_wp2_with (first | (refine wpList_load_mid rfl 31 _ rfl w.heap.size 0 rfl (rg.map (Value.int .i64)) _ (HRg.out _ HR.out) Tryd.underlying31 rfl HS8.out ?_) | (refine wpList_load_mid rfl 32 _ rfl w.heap.size 8 rfl (mg.map (Value.int .i64)) _ (HRm.out _ HR.out) Tryd.underlying32 rfl HS128.out ?_))
  refine (unhide H1 _).mono ?_
  intro e w1 hpost
  obtain ⟨z1, n1, rfl, hl1⟩ := HF.out _ _ _ hpost
  have HP1 := hide hpost
  have hb1 := hpost.1
  have HB1 : Hid (Below w.heap.size w w1) := HB0.out.trans (hb1.mono (by rw [size_alloc1]; omega))
  have HR1 := hide (HR.out.keep (hb1.block _ (by rw [size_alloc1]; omega)))
  have hz1 := hb1.size
  rw [size_alloc1] at hz1
  have HRa : Hid (RowI (w1.alloc (.cells (S z1) 31)) w.heap.size 34 z) := HR1.out.keep (Below.heap_alloc w1 _ _ HR1.out.lt)
  clear hpost hb1
  go_wp2_with (first | (refine wpList_storeR size8 rfl _ _ rfl w1.heap.size rfl z1 rfl hl1 (by rw [isRowB_alloc_at _ _ _ _ _ rfl]; rfl) _ (setRow_alloc_at _ _ _ _ _ rfl) ?_) | (refine wpList_load_mid rfl 31 _ rfl w.heap.size 0 rfl (rg.map (Value.int .i64)) _ (HRg.out _ HRa.out) Tryd.underlying31 rfl HS8.out ?_) | (refine wpList_load_mid rfl 32 _ rfl w.heap.size 8 rfl (mg.map (Value.int .i64)) _ (HRm.out _ HRa.out) Tryd.underlying32 rfl HS128.out ?_))
  refine (unhide H2 _).mono ?_
  intro e w2 hpost
  have he := DoPost.one HP1.out hpost
  subst he
  have hb2 := hpost.1
  have HB2 : Hid (Below w.heap.size w w2) := (HB1.out.alloc (by omega) _).trans (hb2.mono (by rw [size_alloc1]; omega))
  have hz2 := hb2.size
  rw [size_alloc1] at hz2
  have r1 : RowI w2 w1.heap.size 31 z1 := RowI.keep (show RowI (w1.alloc (.cells (S z1) 31)) w1.heap.size 31 z1 from _root_.Go.heap_alloc_new w1 _) (hb2.block _ (by rw [size_alloc1]; omega))
  have HRx : Hid (RowI (w2.alloc (.cells (S z1) 31)) w1.heap.size 31 z1) := r1.keep (Below.heap_alloc w2 _ _ r1.lt)
  have HRy : Hid (RowI (w2.alloc (.cells (S z1) 31)) w2.heap.size 31 z1) := _root_.Go.heap_alloc_new w2 _
  have heq := eq8 z1 z1 hl1 hl1
  rw [decide_eq_true rfl] at heq
  have HNm := hide (fun w' => num_any n1 w')
  clear hpost hb2 r1
  go_wp2_with (first | (refine wpList_storeR size8 rfl _ _ rfl w2.heap.size rfl z1 rfl hl1 (by rw [isRowB_alloc_at _ _ _ _ _ rfl]; rfl) _ (setRow_alloc_at _ _ _ _ _ rfl) ?_) | (refine wpList_loadR rfl Tryd.underlying31 size8 rfl _ rfl w1.heap.size rfl (HRx.out.isRow 8 hl1) _ HRx.out.rowD ?_) | (refine wpList_loadR rfl Tryd.underlying31 size8 rfl _ rfl w2.heap.size rfl (HRy.out.isRow 8 hl1) _ HRy.out.rowD ?_))
  refine (unhide HNm _).mono ?_
  rintro e w' ⟨rfl, hw'⟩
  obtain rfl := hw'.symm
  go_wp2_with fail
  go_ret
  exact ⟨ret_bool (by simp), HB2.out.alloc (by omega) _⟩

theorem bookP_new (w : World) (o : Obj) : BookP (w.heap.size + 1) [] (.slice none 0 0) ((w.alloc o).alloc (.cells #[.slice none 0 0, .slice none 0 0, .slice none 0 0] 27)) := by
  refine ⟨?_, fun j h1 h2 => ?_, fun j => ?_, fun cur hc => ?_, World.ownsRow_nil _ _ _ _, fun i v hi => by simp at hi⟩
  · rw [World.cell?_alloc_at (hn := by rw [size_alloc1])]; rfl
  · rw [World.cell?_alloc_at (hn := by rw [size_alloc1])]
    have : j = 0 ∨ j = 2 := by omega
    rcases this with rfl | rfl <;> rfl
  · rw [World.frozen?_alloc_at (hn := by rw [size_alloc1])]
  · have := _root_.Go.heap_alloc_new (w.alloc o) (.cells #[.slice none 0 0, .slice none 0 0, .slice none 0 0] 27)
    rw [size_alloc1] at this
    rw [this] at hc
    cases hc

set_option maxRecDepth 100000 in
set_option maxHeartbeats 2000000 in
theorem plans_any (s p : ByteArray) (z : List Int) (w : World) (ht : Tab w) (hz : z.length = 138) (hs : s.size ≤ maxLen) (hp : p.size ≤ maxLen) :
    Calls Tryd.prog 6 #[.string s, .string p, .agg (S z)] w fun e' w' => e' = .returned (.bool true) ∧ Below w.heap.size w w' := by
  have HT := hide ht
  have hpos := ht.pos
  clear ht
  have HR : Hid (RowI (w.alloc (.cells (S z) 34)) w.heap.size 34 z) := _root_.Go.heap_alloc_new w _
  obtain ⟨W, hW⟩ : ∃ W, W = (w.alloc (.cells (S z) 34)).alloc (.cells #[.slice none 0 0, .slice none 0 0, .slice none 0 0] 27) := ⟨_, rfl⟩
  have HW := hide hW
  have hbW : Below w.heap.size w W := by rw [hW]; exact ((Below.refl _ _).alloc (Nat.le_refl _) _).alloc (by rw [size_alloc1]; omega) _
  have HK0 : Hid (BookP (w.heap.size + 1) [] (.slice none 0 0) W) := by unfold Hid; rw [hW]; exact bookP_new w _
  have HRW : Hid (RowI W w.heap.size 34 z) := by unfold Hid; rw [hW]; exact HR.out.keep (Below.heap_alloc _ _ _ HR.out.lt)
  have HBW := hide hbW
  have H1 := hide (putsOf_any p (w.heap.size + 1) 0 [] _ W HK0.out rfl (by decide) hp)
  have hzW : W.heap.size = w.heap.size + 1 + 1 := by rw [hW, size_alloc1, size_alloc1]
  clear hbW hW
  go_enter Tryd.func6, Tryd.ntmps6
  go_wp2_with fail
  rw [← HW.out]
  refine (unhide H1).mono ?_
  rintro e w1 ⟨rfl, ⟨vs1, vi1, hk1, hl1⟩, hb1⟩
  have HB1 : Hid (Below w.heap.size w w1) := HBW.out.trans (hb1.mono (by omega))
  have r1 : RowI w1 w.heap.size 34 z := HRW.out.keep (hb1.block _ (by omega))
  have HK1 := hide hk1; have HL1 := hide hl1
  have H2 := hide (does_any p z w1 hz hp)
  have hz1 : w.heap.size < w1.heap.size := r1.lt
  have rI := r1.isRow 138 hz
  have rD := r1.rowD
  clear hk1 hl1 hb1 r1 H1
  go_wp2_with (refine wpList_load_S rfl _ rfl w.heap.size rfl rI _ rD ?_)
  refine (unhide H2).mono ?_
  rintro e w2 ⟨rfl, hb2⟩
  have HB2 : Hid (Below w.heap.size w w2) := HB1.out.trans (hb2.mono (by omega))
  have HK2 := hide (HK1.out.above hb2)
  have hz2 := hb2.size
  have H3 := hide (accepts_any s p w2 (HT.out.below hpos HB2.out) hs hp)
  clear hb2 H2 rI rD
  go_wp2_with fail
  refine (unhide H3).mono ?_
  rintro e w3 ⟨rfl, hb3⟩
  have HB3 : Hid (Below w.heap.size w w3) := HB2.out.trans (hb3.mono (by omega))
  have H4 := hide (putsOf_any p (w.heap.size + 1) 1 vs1 vi1 w3 (HK2.out.above hb3) HL1.out (by decide) hp)
  have hz3 := hb3.size
  clear hb3 H3
  go_wp2_with fail
  refine (unhide H4).mono ?_
  rintro e w4 ⟨rfl, ⟨vs2, vi2, hk4, hl4⟩, hb4⟩
  have HB4 : Hid (Below w.heap.size w w4) := HB3.out.trans (hb4.mono (by omega))
  have H5 := hide (looks_puts (w.heap.size + 1) vs2 vi2 w4 hk4 (by omega))
  have hz4 := hb4.size
  clear hk4 hl4 hb4 H4
  go_wp2_with fail
  refine (unhide H5).mono ?_
  rintro e w5 ⟨rfl, hb5⟩
  have HB5 : Hid (Below w.heap.size w w5) := HB4.out.trans (hb5.mono (by omega))
  clear hb5 H5
  go_wp2_with fail
  go_ret
  exact ⟨rfl, HB5.out⟩
end Go.Proofs.YtmmflekajbeamaaDoor
