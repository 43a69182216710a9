/-
  THE LAW Programs, walked: the book's looks; Assemble against the document's; three times, and still.
  THE LAW Programs, walked: it answers true, for every two texts.
-/
import Derived.Test.YtmmflekajbeamaaDoorG29
namespace Go.Proofs.YtmmflekajbeamaaDoor
open Go.RowKit

set_option maxRecDepth 100000 in
set_option maxHeartbeats 4000000 in
theorem lookInts_any (N : Nat) (vs : List Value) (vi : Value) (w : World) (h : BookAt N vs vi w) (hl : vs.length ≤ 400) :
    Calls Tryd.prog 42 #[.pointer (some ⟨N, 0, none⟩)] w fun e' w' => e' = .returned (.bool true) ∧ w' = w := by
  obtain ⟨ia, ic, rfl⟩ := owns_len h.row
  have c0 := h.c0
  have H := hide h
  clear h
  go_enter Tryd.func42, Tryd.ntmps42
  go_wp2_with fail
  go_loop [3] (fun i => ∃ k : Nat, k ≤ vs.length ∧ i = .int .i64 k) (fun i => vs.length - (intOf i).toNat)
  case atStart => exact ⟨0, Nat.zero_le _, rfl⟩
  case round =>
    obtain ⟨k, hk, rfl⟩ := hrel
    by_cases hlt : k < vs.length
    · have hlt' : (k : Int) < (vs.length : Int) := by omega
      obtain ⟨g, c, hf, _, hgl⟩ := H.out.row.form (by omega)
      cases hf
      obtain ⟨v, hv⟩ : ∃ v, vs[k]? = some v := ⟨vs[k], by simp [hlt]⟩
      have hcell : w.cell? ⟨g, k, none⟩ = some v := (H.out.row.cellAt k (by omega)).trans hv
      obtain ⟨a, n, cc, rfl, hnb, hms⟩ := H.out.ms k v hv
      have HMs := hide hms
      clear hms hv
      have HMk2 := hide (fun w' => markInt_any ((k : Int) / 4 * 4) w' (by omega) (by omega))
      have hme : -1000 - (k : Int) / 4 * 4 = -1000 - 4 * ((k / 4 : Nat) : Int) := by omega
      rw [hme] at HMk2
      generalize -1000 - 4 * ((k / 4 : Nat) : Int) = m at *
      clear hme
      go_wp2_with fail
      refine (unhide HMk2 _).mono ?_
      rintro e w' ⟨rfl, hw'⟩
      obtain rfl := hw'.symm
      go_wp2_with fail
      go_loop [5] (fun j => ∃ i : Nat, i ≤ n ∧ j = .int .i64 i) (fun j => n - (intOf j).toNat)
      case atStart => exact ⟨0, Nat.zero_le _, rfl⟩
      case round =>
        obtain ⟨i, hi, rfl⟩ := hrel
        by_cases hin : i < n
        · have hin' : (i : Int) < (n : Int) := by omega
          obtain ⟨g2, cur, rfl, hg2, hcur⟩ := HMs.out (by omega)
          have x2 : w.cell? ⟨g2, i, none⟩ = some (.int .i64 m) := by rw [cell_of_row w g2 i cur _ _ hg2]; exact hcur i hin
          clear hg2 hcur
          go_wp2_with fail
          exact ⟨⟨i + 1, by omega, by go_num⟩, by simp [intOf]; omega⟩
        · have hin' : ¬ (i : Int) < (n : Int) := by omega
          go_wp2_with fail
          exact ⟨⟨k + 1, by omega, by go_num⟩, by simp [intOf]; omega⟩
    · have hlt' : ¬ (k : Int) < (vs.length : Int) := by omega
      go_wp2_with fail
      go_ret
      exact ⟨rfl, rfl⟩

set_option maxRecDepth 100000 in
set_option maxHeartbeats 2000000 in
theorem lookPuts_any (N : Nat) (vs : List Value) (vi : Value) (w : World) (h : BookAt N vs vi w) :
    Calls Tryd.prog 43 #[.pointer (some ⟨N, 0, none⟩)] w fun e' w' => e' = .returned (.bool true) ∧ w' = w := by
  have c1 := h.c1
  clear h
  go_enter Tryd.func43, Tryd.ntmps43
  go_wp2_with fail
  go_loop [3] (fun i => i = .int .i64 0) (fun _ => 0)
  case atStart => rfl
  case round =>
    subst hrel
    go_wp2_with fail
    go_ret
    exact ⟨rfl, rfl⟩
set_option maxRecDepth 100000 in
set_option maxHeartbeats 2000000 in
theorem lookPlans_any (N : Nat) (vs : List Value) (vi : Value) (w : World) (h : BookAt N vs vi w) :
    Calls Tryd.prog 44 #[.pointer (some ⟨N, 0, none⟩)] w fun e' w' => e' = .returned (.bool true) ∧ w' = w := by
  have c2 := h.c2
  clear h
  go_enter Tryd.func44, Tryd.ntmps44
  go_wp2_with fail
  go_loop [3] (fun i => i = .int .i64 0) (fun _ => 0)
  case atStart => rfl
  case round =>
    subst hrel
    go_wp2_with fail
    go_ret
    exact ⟨rfl, rfl⟩

set_option maxRecDepth 100000 in
set_option maxHeartbeats 2000000 in
theorem looks_any (N : Nat) (vs : List Value) (vi : Value) (w : World) (h : BookAt N vs vi w) (hl : vs.length ≤ 400) :
    Calls Tryd.prog 13 #[.pointer (some ⟨N, 0, none⟩)] w fun e' w' => e' = .returned (.bool true) ∧ w' = w := by
  have H1 := hide (lookInts_any N vs vi w h hl)
  have H2 := hide (lookPuts_any N vs vi w h)
  have H3 := hide (lookPlans_any N vs vi w h)
  clear h
  go_enter Tryd.func13, Tryd.ntmps13
  go_wp2_with fail
  refine (unhide H1).mono ?_
  rintro e w' ⟨rfl, hw'⟩
  obtain rfl := hw'.symm
  go_wp2_with fail
  refine (unhide H2).mono ?_
  rintro e w' ⟨rfl, hw'⟩
  obtain rfl := hw'.symm
  go_wp2_with fail
  refine (unhide H3).mono ?_
  rintro e w' ⟨rfl, hw'⟩
  obtain rfl := hw'.symm
  go_wp2_with fail
  go_ret
  exact ⟨rfl, rfl⟩

theorem asm_len (s : ByteArray) (ws : List Int) (h : asmP s = .inl ws) : ws.length ≤ 128 := by
  unfold asmP at h
  by_cases hs : 2000 < s.size
  · rw [if_pos hs] at h; cases h
  · rw [if_neg hs] at h
    cases hc : cutGo s s.size 0 cs0 with
    | inr f => rw [hc] at h; cases h
    | inl st =>
      rw [hc] at h
      simp only at h
      obtain ⟨_, htok, _, _⟩ := cut_all s (by omega) st hc
      cases hr : rdAll ps0 (endLineS s s.size st).lines with
      | inr f => rw [hr] at h; cases h
      | inl ps =>
        rw [hr] at h
        simp only at h
        have hinv := (all_ext _ 0 ps0 ps (fun L hL t ht => (htok L hL t ht).2.2.1) hr PInv.zero).1
        have := fill_len ps.labels _ _ _ h
        have := hinv.wl
        omega

set_option maxRecDepth 100000 in
set_option maxHeartbeats 1000000 in
theorem assembles_any (s : ByteArray) (N q : Nat) (vs : List Value) (vi : Value) (w : World) (h : BookAt N vs vi w) (hq : vs.length = 4 * q) (hq2 : q ≤ 100) (ht : Tab w) (hsm : s.size ≤ maxLen) :
    Calls Tryd.prog 12 #[.pointer (some ⟨N, 0, none⟩), .string s] w fun e' w' => e' = .returned (.bool true) ∧ (∃ vs' vi', BookAt N vs' vi' w' ∧ vs'.length = 4 * (q + 1)) ∧ Below N w w' := by
  have HA := hide (cribAssemble_any s w ht hsm)
  have HD := hide (fun w' => rAssemble_any s w' hsm)
  rw [← asm_same s] at HD
  have HH := hide h
  have HQ := hide hq
  clear h hq
  go_enter Tryd.func12, Tryd.ntmps12
  go_wp2_with fail
  refine (unhide HA).mono ?_
  rintro e w1 ⟨hb1, hres⟩
  have HB1 := hide hb1
  clear hb1 HA
  rcases hres with ⟨ws, v, hr, hown, rfl⟩ | ⟨l, c, er, hr, her, rfl⟩
  · have HO := hide hown
    have HR := hide hr
    clear hown hr
    go_wp2_with fail
    refine (unhide HD _).mono ?_
    rintro e w2 ⟨hb2, hres⟩
    rcases hres with ⟨ws2, v2, hr2, hown2, rfl⟩ | ⟨l, c, er, hr2, her, rfl⟩
    · rw [HR.out] at hr2
      cases hr2
      have hwl := asm_len s ws HR.out
      obtain ⟨va, vc, rfl⟩ := owns_len HO.out
      have hs1 : (w1.alloc (.cells #[.int .i64 0, .int .i64 0] 41)).heap.size = w1.heap.size + 1 := size_alloc1 _ _
      have x0 : w2.cell? ⟨w1.heap.size, 0, none⟩ = some (.int .i64 0) := by rw [below_cell' hb2 _ _ (by omega), World.cell?_alloc_at (hn := rfl)]; rfl
      have x1 : w2.cell? ⟨w1.heap.size, 1, none⟩ = some (.int .i64 0) := by rw [below_cell' hb2 _ _ (by omega), World.cell?_alloc_at (hn := rfl)]; rfl
      have HB2 : Hid (Below w1.heap.size w1 w2) := ((Below.refl _ _).alloc (Nat.le_refl _) _).trans (hb2.mono (by omega))
      have hz2 : w1.heap.size < w2.heap.size := block_lt_of_cell x0
      have HV : Hid (w2.ownsRow w.heap.size 3 1 (.slice va ws.length vc) ws.length (intCs ws)) := own_grow HO.out HB2.out
      have HV2 : Hid (w2.ownsRow (w1.heap.size + 1) 3 1 v2 ws.length (intCs ws)) := by rw [hs1] at hown2; exact hown2
      have HSm := hide (fun o => sameInts_yes (.slice va ws.length vc) v2 w.heap.size (w1.heap.size + 1) ws (w2.alloc o) (HV.out.alloc o) (HV2.out.alloc o) (by first | omega | simp))
      clear hb2 HD
      go_wp2_with fail
      refine (unhide HSm _).mono ?_
      rintro e w3 ⟨rfl, hb3⟩
      have y0 : w3.cell? ⟨w1.heap.size, 0, none⟩ = some (.int .i64 0) := by rw [below_cell' hb3 _ _ (by rw [size_alloc1]; omega), World.cell?_alloc_past (hn := by omega)]; exact x0
      have y1 : w3.cell? ⟨w1.heap.size, 1, none⟩ = some (.int .i64 0) := by rw [below_cell' hb3 _ _ (by rw [size_alloc1]; omega), World.cell?_alloc_past (hn := by omega)]; exact x1
      have z0 : w3.cell? ⟨w2.heap.size, 0, none⟩ = some (.int .i64 0) := by rw [below_cell' hb3 _ _ (by rw [size_alloc1]; omega), World.cell?_alloc_at (hn := rfl)]; rfl
      have z1 : w3.cell? ⟨w2.heap.size, 1, none⟩ = some (.int .i64 0) := by rw [below_cell' hb3 _ _ (by rw [size_alloc1]; omega), World.cell?_alloc_at (hn := rfl)]; rfl
      have HB3 : Hid (Below w2.heap.size w2 w3) := ((Below.refl _ _).alloc (Nat.le_refl _) _).trans (hb3.mono (by rw [size_alloc1]; omega))
      have HBw : Hid (Below w.heap.size w w3) := (HB1.out.trans (HB2.out.mono HB1.out.size)).trans (HB3.out.mono (Nat.le_trans HB1.out.size HB2.out.size))
      have HKp := hide (keepInts_any N q vs vi w w3 HH.out HBw.out HQ.out hq2 (.slice va ws.length vc) ws (own_grow HV.out HB3.out) (by first | omega | simp))
      have HNm := hide (fun w' => num_any 0 w')
      clear hb3 x0 x1 HSm
      go_wp2_with fail
      refine (unhide HNm _).mono ?_
      rintro e w' ⟨rfl, hw'⟩
      obtain rfl := hw'.symm
      by_cases hw0 : ws.length = 0
      · have hw0b : ((ws.length : Int) == 0) = true := by rw [beq_iff_eq]; omega
        clear hw0
        go_wp2_with fail
        refine (unhide HKp).mono ?_
        rintro e w4 ⟨rfl, hbk, hbelow⟩
        have HBk := hide hbk; have HBe := hide hbelow
        clear hbk hbelow HKp
        go_wp2_with fail
        go_ret
        exact ⟨rfl, HBk.out, HBe.out⟩
      · have hw0b : ((ws.length : Int) == 0) = false := by rw [beq_eq_false_iff_ne]; omega
        clear hw0
        go_wp2_with fail
        refine (unhide HKp).mono ?_
        rintro e w4 ⟨rfl, hbk, hbelow⟩
        have HBk := hide hbk; have HBe := hide hbelow
        clear hbk hbelow HKp
        go_wp2_with fail
        go_ret
        exact ⟨rfl, HBk.out, HBe.out⟩
    · rw [HR.out] at hr2
      cases hr2
  · have HR := hide hr
    clear hr
    go_wp2_with fail
    refine (unhide HD _).mono ?_
    rintro e w2 ⟨hb2, hres⟩
    rcases hres with ⟨ws2, v2, hr2, hown2, rfl⟩ | ⟨l2, c2, er2, hr2, her2, rfl⟩
    · rw [HR.out] at hr2
      cases hr2
    · rw [HR.out] at hr2
      cases hr2
      have hs1 : (w1.alloc (.cells #[.int .i64 l, .int .i64 c] 41)).heap.size = w1.heap.size + 1 := size_alloc1 _ _
      have x0 : w2.cell? ⟨w1.heap.size, 0, none⟩ = some (.int .i64 l) := by rw [below_cell' hb2 _ _ (by omega), World.cell?_alloc_at (hn := rfl)]; rfl
      have x1 : w2.cell? ⟨w1.heap.size, 1, none⟩ = some (.int .i64 c) := by rw [below_cell' hb2 _ _ (by omega), World.cell?_alloc_at (hn := rfl)]; rfl
      have HB2 : Hid (Below w1.heap.size w1 w2) := ((Below.refl _ _).alloc (Nat.le_refl _) _).trans (hb2.mono (by omega))
      have hz2 : w1.heap.size < w2.heap.size := block_lt_of_cell x0
      have HV : Hid (w2.ownsRow w.heap.size 3 1 (.slice none 0 0) ([] : List Int).length (intCs [])) := World.ownsRow_nil _ _ _ _
      have HV2 : Hid (w2.ownsRow (w1.heap.size + 1) 3 1 (.slice none 0 0) ([] : List Int).length (intCs [])) := World.ownsRow_nil _ _ _ _
      have HSm := hide (fun o => sameInts_yes (.slice none 0 0) (.slice none 0 0) w.heap.size (w1.heap.size + 1) [] (w2.alloc o) (HV.out.alloc o) (HV2.out.alloc o) (by first | omega | simp))
      clear hb2 HD
      go_wp2_with fail
      refine (unhide HSm _).mono ?_
      rintro e w3 ⟨rfl, hb3⟩
      have y0 : w3.cell? ⟨w1.heap.size, 0, none⟩ = some (.int .i64 l) := by rw [below_cell' hb3 _ _ (by rw [size_alloc1]; omega), World.cell?_alloc_past (hn := by omega)]; exact x0
      have y1 : w3.cell? ⟨w1.heap.size, 1, none⟩ = some (.int .i64 c) := by rw [below_cell' hb3 _ _ (by rw [size_alloc1]; omega), World.cell?_alloc_past (hn := by omega)]; exact x1
      have z0 : w3.cell? ⟨w2.heap.size, 0, none⟩ = some (.int .i64 l) := by rw [below_cell' hb3 _ _ (by rw [size_alloc1]; omega), World.cell?_alloc_at (hn := rfl)]; rfl
      have z1 : w3.cell? ⟨w2.heap.size, 1, none⟩ = some (.int .i64 c) := by rw [below_cell' hb3 _ _ (by rw [size_alloc1]; omega), World.cell?_alloc_at (hn := rfl)]; rfl
      have HB3 : Hid (Below w2.heap.size w2 w3) := ((Below.refl _ _).alloc (Nat.le_refl _) _).trans (hb3.mono (by rw [size_alloc1]; omega))
      have HBw : Hid (Below w.heap.size w w3) := (HB1.out.trans (HB2.out.mono HB1.out.size)).trans (HB3.out.mono (Nat.le_trans HB1.out.size HB2.out.size))
      have HKp := hide (keepInts_any N q vs vi w w3 HH.out HBw.out HQ.out hq2 (.slice none 0 0) [] (own_grow HV.out HB3.out) (by first | omega | simp))
      have HNm := hide (fun w' => num_any er w')
      clear hb3 x0 x1 HSm
      go_wp2_with fail
      refine (unhide HNm _).mono ?_
      rintro e w' ⟨rfl, hw'⟩
      obtain rfl := hw'.symm
      go_wp2_with fail
      refine (unhide HKp).mono ?_
      rintro e w4 ⟨rfl, hbk, hbelow⟩
      have HBk := hide hbk; have HBe := hide hbelow
      clear hbk hbelow HKp
      go_wp2_with fail
      go_ret
      exact ⟨rfl, HBk.out, HBe.out⟩
end Go.Proofs.YtmmflekajbeamaaDoor

namespace Go.Proofs.YtmmflekajbeamaaDoor
open Go.RowKit

theorem book_new (w : World) : BookAt w.heap.size [] (.slice none 0 0) (w.alloc (.cells #[.slice none 0 0, .slice none 0 0, .slice none 0 0] 27)) := by
  refine ⟨?_, ?_, ?_, fun j => ?_, fun cur hc => ?_, World.ownsRow_nil _ _ _ _, fun i v hi => by simp at hi⟩
  iterate 3
    · rw [World.cell?_alloc_at (hn := rfl)]; rfl
  · rw [World.frozen?_alloc_at (hn := rfl)]
  · rw [_root_.Go.heap_alloc_new] at hc
    cases hc

set_option maxRecDepth 100000 in
set_option maxHeartbeats 1000000 in
theorem programs_any (s o : ByteArray) (w : World) (ht : Tab w) (hs : s.size ≤ maxLen) (ho : o.size ≤ maxLen) :
    Calls Tryd.prog 3 #[.string s, .string o] w fun e' w' => e' = .returned (.bool true) ∧ Below w.heap.size w w' := by
  have HT := hide ht
  have hpos := ht.pos
  have HS := hide hs; have HOs := hide ho
  clear ht hs ho
  go_enter Tryd.func3, Tryd.ntmps3
  go_wp2_with fail
  have hb0 : Below w.heap.size w (w.alloc (.cells #[.slice none 0 0, .slice none 0 0, .slice none 0 0] 27)) := (Below.refl _ _).alloc (Nat.le_refl _) _
  refine (assembles_any s w.heap.size 0 [] _ _ (book_new w) rfl (by decide) (HT.out.below hpos hb0) HS.out).mono ?_
  rintro e w1 ⟨rfl, ⟨vs1, vi1, hk1, hl1⟩, hb1⟩
  have HB1 := hide (hb0.trans hb1)
  have HK1 := hide hk1
  have HL1 := hide hl1
  clear hb0 hb1 hk1 hl1
  go_wp2_with fail
  refine (assembles_any o w.heap.size 1 vs1 vi1 w1 HK1.out HL1.out (by decide) (HT.out.below hpos HB1.out) HOs.out).mono ?_
  rintro e w2 ⟨rfl, ⟨vs2, vi2, hk2, hl2⟩, hb2⟩
  have HB2 := hide (HB1.out.trans hb2)
  have HK2 := hide hk2
  have HL2 := hide hl2
  clear hb2 hk2 hl2
  go_wp2_with fail
  refine (assembles_any s w.heap.size 2 vs2 vi2 w2 HK2.out HL2.out (by decide) (HT.out.below hpos HB2.out) HS.out).mono ?_
  rintro e w3 ⟨rfl, ⟨vs3, vi3, hk3, hl3⟩, hb3⟩
  have HB3 := hide (HB2.out.trans hb3)
  have HK3 := hide (looks_any w.heap.size vs3 vi3 w3 hk3 (by omega))
  clear hb3 hk3 hl3
  go_wp2_with fail
  refine (unhide HK3).mono ?_
  rintro e w' ⟨rfl, hw'⟩
  obtain rfl := hw'.symm
  go_wp2_with fail
  go_ret
  exact ⟨rfl, HB3.out⟩
end Go.Proofs.YtmmflekajbeamaaDoor
