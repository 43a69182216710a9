/-
  The document's own answer: all lines, once: its walk (pass).
-/
import Derived.Test.YtmmflekajbeamaaDoorG20
import Derived.Deep.Onto
namespace Go.Proofs.YtmmflekajbeamaaDoor
open Go.RowKit

structure PsInv (w : World) (Ls : List ByteArray) (vall : Value) (k : Nat) (ws : List Int) (mk : List (List UInt8 × Int)) (wv mv : Value) (wr : World) : Prop where
  wd : wr.ownsRow (w.heap.size + 1) 3 1 wv ws.length (intCs ws)
  mr : LbAt wr (w.heap.size + 1) mv mk
  al : wr.ownsRow (w.heap.size + 1) 9 1 vall Ls.length (strCs Ls)
  bl : Below (w.heap.size + 1) (w.alloc (.cells #[.int .i64 0, .int .i64 0] 41)) wr
  wl : ws.length ≤ 128
  ml : mk.length ≤ k
  mb : ∀ p ∈ mk, 0 ≤ p.2 ∧ p.2 ≤ 128
theorem PsInv.size {w : World} {Ls : List ByteArray} {vall : Value} {k : Nat} {ws : List Int} {mk : List (List UInt8 × Int)} {wv mv : Value} {wr : World} (h : PsInv w Ls vall k ws mk wv mv wr) : w.heap.size + 1 ≤ wr.heap.size := by
  have := h.bl.size
  rw [size_alloc1] at this
  exact this
theorem PsInv.below {w : World} {Ls : List ByteArray} {vall : Value} {k : Nat} {ws : List Int} {mk : List (List UInt8 × Int)} {wv mv : Value} {wr : World} (h : PsInv w Ls vall k ws mk wv mv wr) : Below w.heap.size w wr :=
  ((Below.refl _ _).alloc (Nat.le_refl _) _).trans (h.bl.mono (Nat.le_succ _))
theorem PsInv.place {w : World} {Ls : List ByteArray} {vall : Value} {k : Nat} {ws : List Int} {mk : List (List UInt8 × Int)} {wv mv : Value} {wr : World} (h : PsInv w Ls vall k ws mk wv mv wr) : wr.cell? ⟨w.heap.size, 0, none⟩ = some (.int .i64 0) ∧ wr.cell? ⟨w.heap.size, 1, none⟩ = some (.int .i64 0) ∧ ∀ j, wr.frozen? ⟨w.heap.size, j, none⟩ = false := by
  refine ⟨?_, ?_, fun j => ?_⟩
  · rw [below_cell' h.bl _ _ (Nat.lt_succ_self _), World.cell?_alloc_at (hn := rfl)]; rfl
  · rw [below_cell' h.bl _ _ (Nat.lt_succ_self _), World.cell?_alloc_at (hn := rfl)]; rfl
  · rw [h.bl.frozen (p := ⟨w.heap.size, j, none⟩) (Nat.lt_succ_self _), World.frozen?_alloc_at (hn := rfl)]
theorem PsInv.above {w : World} {Ls : List ByteArray} {vall : Value} {k : Nat} {ws : List Int} {mk : List (List UInt8 × Int)} {wv mv : Value} {wr w2 : World} (h : PsInv w Ls vall k ws mk wv mv wr) (hb : Below wr.heap.size wr w2) : PsInv w Ls vall k ws mk wv mv w2 :=
  ⟨own_grow h.wd hb, own_grow h.mr hb, own_grow h.al hb, h.bl.trans (hb.mono h.size), h.wl, h.ml, h.mb⟩
theorem PsInv.next {w : World} {Ls : List ByteArray} {vall : Value} {k : Nat} {ws : List Int} {mk : List (List UInt8 × Int)} {wv mv : Value} {wr : World} (h : PsInv w Ls vall k ws mk wv mv wr) : PsInv w Ls vall (k + 1) ws mk wv mv wr :=
  ⟨h.wd, h.mr, h.al, h.bl, h.wl, Nat.le_succ_of_le h.ml, h.mb⟩
theorem rows_ne {w : World} {B B' : Nat} {e e' : TypeId} {k k' : Nat} {v v' : Value} {n n' : Nat} {xs xs' : List Value} (h : w.ownsRow B e k v n xs) (h' : w.ownsRow B' e' k' v' n' xs') (he : e ≠ e') : ∀ g, v.ownBlock = some g → some g ≠ v'.ownBlock := fun g hg hg' => by
  obtain ⟨c1, t1⟩ := ownsRow_kind h g hg
  obtain ⟨c2, t2⟩ := ownsRow_kind h' g hg'.symm
  rw [t1] at t2
  cases t2
  exact he rfl
theorem own_other {w w3 : World} {B : Nat} {e : TypeId} {k : Nat} {v : Value} {n : Nat} {xs : List Value} {row : Option Nat} (h : w.ownsRow B e k v n xs) (hg : w.grownBy w3 row) (hne : ∀ g, v.ownBlock = some g → some g ≠ row) : w3.ownsRow B e k v n xs :=
  ownsRow_keep h (fun g hg' => hg.block g (row_lt h g hg').2 (hne g hg'))
theorem PsInv.appW {w : World} {Ls : List ByteArray} {vall : Value} {k : Nat} {ws : List Int} {mk : List (List UInt8 × Int)} {wv mv : Value} {wr w3 : World} (h : PsInv w Ls vall k ws mk wv mv wr) (x : Int) (g cap : Nat)
    (ho : w3.ownsRow (w.heap.size + 1) 3 1 (.slice (some ⟨g, 0, none⟩) (ws.length + 1) cap) (ws.length + 1) (intCs ws ++ [.int .i64 x])) (hg : wr.grownBy w3 wv.ownBlock) (hl : ws.length < 128) :
    PsInv w Ls vall k (ws ++ [x]) mk (.slice (some ⟨g, 0, none⟩) (ws.length + 1) cap) mv w3 := by
  refine ⟨?_, own_other h.mr hg (rows_ne h.mr h.wd (by decide)), own_other h.al hg (rows_ne h.al h.wd (by decide)), h.bl.grown hg h.size (fun j hj => (row_lt h.wd j hj).1), by simp; omega, h.ml, h.mb⟩
  rw [intCs_snoc, List.length_append, List.length_singleton]
  exact ho
theorem PsInv.appM {w : World} {Ls : List ByteArray} {vall : Value} {k : Nat} {ws : List Int} {mk : List (List UInt8 × Int)} {wv mv : Value} {wr w3 : World} (h : PsInv w Ls vall k ws mk wv mv wr) (p : List UInt8 × Int) (g cap : Nat)
    (ho : w3.ownsRow (w.heap.size + 1) 162 2 (.slice (some ⟨g, 0, none⟩) (mk.length + 1) cap) (mk.length + 1) (lbCs mk ++ lbC p)) (hg : wr.grownBy w3 mv.ownBlock) (hp : 0 ≤ p.2 ∧ p.2 ≤ 128) :
    PsInv w Ls vall (k + 1) ws (mk ++ [p]) wv (.slice (some ⟨g, 0, none⟩) (mk.length + 1) cap) w3 := by
  refine ⟨own_other h.wd hg (rows_ne h.wd h.mr (by decide)), ?_, own_other h.al hg (rows_ne h.al h.mr (by decide)), h.bl.grown hg h.size (fun j hj => (row_lt h.mr j hj).1), h.wl, by have := h.ml; simp; omega, fun q hq => ?_⟩
  · unfold LbAt
    rw [lbCs_snoc, List.length_append, List.length_singleton]
    exact ho
  · rcases List.mem_append.1 hq with hq | hq
    · exact h.mb q hq
    · rw [List.mem_singleton.1 hq]
      exact hp
theorem infoLab : ∃ i, Tryd.prog.info? 162 = some i ∧ i.zero = some (.agg #[.string ⟨#[]⟩, .int .i64 0]) ∧ i.size = 2 ∧ i.bytes = 24 := by
  have h : (Tryd.prog.info? 162).map (fun i => (i.zero, i.size, i.bytes)) = some (some (.agg #[.string ⟨#[]⟩, .int .i64 0]), 2, 24) := by kernel_rfl
  cases hq : Tryd.prog.info? 162 with
  | none => rw [hq] at h; cases h
  | some i =>
    rw [hq] at h
    simp only [Option.map_some, Option.some.injEq, Prod.mk.injEq] at h
    exact ⟨i, rfl, h.1, h.2.1, h.2.2⟩
theorem col_bt (t : ByteArray) (h : 1 ≤ t.size) : colB t.data.toList = true ↔ bt t (t.size - 1) = 58 := by
  obtain ⟨u, hu, hb⟩ := getElem?_bt t (t.size - 1) (by omega)
  unfold colB
  have hl : t.data.toList.getLast? = some u := by
    rw [List.getLast?_eq_getElem?]
    exact hu
  rw [hl, ← hb, beq_iff_eq, Option.some.injEq]
  constructor
  · intro e; rw [e]; rfl
  · intro e; exact UInt8.toNat_inj.1 e
/-- What a line's instruction makes of a pass. -/
theorem pass_ins {lb : List (List UInt8 × Int)} {ga : Bool} {k : Nat} {e : Int} {h : ByteArray × Int} {ps : List (ByteArray × Int)} {ws : List Int} {mk' : List (List UInt8 × Int)} {rest : List (List (ByteArray × Int) × Int)} {P0 : (List Int × List (List UInt8 × Int)) ⊕ (Int × Int × Int)}
    (H : (match (match insD lb ga k e (h :: ps) ws with | .inl ws' => (.inl (ws', mk') : (List Int × List (List UInt8 × Int)) ⊕ (Int × Int × Int)) | .inr f => .inr f) with | .inl (ws', mk'') => passD lb ga (k + 1) rest ws' mk'' | .inr f => .inr f) = P0) :
    ((oneD h ps e lb ga).2.1 = 0 → ¬ 128 ≤ ws.length → passD lb ga (k + 1) rest (ws ++ [(oneD h ps e lb ga).1]) mk' = P0) ∧ ((oneD h ps e lb ga).2.1 = 0 → 128 ≤ ws.length → P0 = .inr ((k : Int) + 1, h.2, 5)) ∧ ((oneD h ps e lb ga).2.1 ≠ 0 → P0 = .inr ((k : Int) + 1, (oneD h ps e lb ga).2.2, (oneD h ps e lb ga).2.1)) := by
  unfold insD at H
  refine ⟨fun h0 hm => ?_, fun h0 hm => ?_, fun h0 => ?_⟩
  · simp only [h0, if_neg hm, if_true] at H
    exact H
  · simp only [h0, if_pos hm, if_true] at H
    exact H.symm
  · simp only [if_neg h0] at H
    exact H.symm
def PsPost (w : World) (r : (List Int × List (List UInt8 × Int)) ⊕ (Int × Int × Int)) (e' : Ending) (w' : World) : Prop :=
  Below w.heap.size w w' ∧ ((∃ ws mk v vm, r = .inl (ws, mk) ∧ w'.ownsRow w.heap.size 3 1 v ws.length (intCs ws) ∧ LbAt w' w.heap.size vm mk ∧ mk.length ≤ 2010 ∧ (∀ p ∈ mk, 0 ≤ p.2 ∧ p.2 ≤ 128) ∧ e' = .returned (.tuple #[v, vm, .agg #[.int .i64 0, .int .i64 0], .int .i64 0])) ∨
    ∃ l c er, r = .inr (l, c, er) ∧ er ≠ 0 ∧ e' = .returned (.tuple #[.slice none 0 0, .slice none 0 0, .agg #[.int .i64 l, .int .i64 c], .int .i64 er]))

set_option maxRecDepth 100000 in
set_option maxHeartbeats 20000000 in
theorem pass_any (s : ByteArray) (B : Nat) (vl : Value) (lb : List (List UInt8 × Int)) (ga : Bool) (w : World) (hs : s.size ≤ 2000) (hl : LbAt w B vl lb) (hll : lb.length ≤ 5000) (hlb : ∀ p ∈ lb, 0 ≤ p.2 ∧ p.2 ≤ 128)
    (hval : ∀ x ∈ linesD s, Val x ∧ x.size ≤ 2000) (hdl : ∀ x ∈ linesD s, (∀ p ∈ (toksD x).1, Val p.1 ∧ 1 ≤ p.1.size ∧ p.1.size ≤ 2000) ∧ (toksD x).1.length ≤ 2010) (hnl : (linesD s).length ≤ 2010) :
    Calls Tryd.prog 72 #[.string s, vl, .bool ga] w (PsPost w (passD lb ga 0 ((linesD s).map toksD) [] [])) := by
  have HLn := hide (fun w' => lines_any s w' hs)
  have HL := hide hl; have HLb := hide hlb; have HVal := hide hval; have HDl := hide hdl
  obtain ⟨inf, hinf, hz, hsz1, hby⟩ := infoInt
  obtain ⟨inl, hinl, hzl, hszl, hbyl⟩ := infoLab
  have HInf := hide hinf; have HZ := hide hz; have HSz := hide hsz1; have HBy := hide hby
  have HInl := hide hinl; have HZl := hide hzl; have HSzl := hide hszl; have HByl := hide hbyl
  clear hl hlb hval hdl hinf hz hsz1 hby hinl hzl hszl hbyl
  generalize linesD s = Ls at *
  go_enter Tryd.func72, Tryd.ntmps72
  go_wp2_with fail
  refine (unhide HLn _).mono ?_
  rintro e w1 ⟨hb1, vall, rfl, hall⟩
  obtain ⟨aa, ac, rfl⟩ := owns_len hall
  have hsz0 : (w.alloc (.cells #[.int .i64 0, .int .i64 0] 41)).heap.size = w.heap.size + 1 := size_alloc1 _ _
  rw [hsz0] at hall hb1
  have HI0 : Hid (PsInv w Ls (.slice aa Ls.length ac) 0 [] [] (.slice none 0 0) (.slice none 0 0) w1) := ⟨World.ownsRow_nil _ _ _ _, World.ownsRow_nil _ _ _ _, hall, hb1, by decide, by decide, fun p hp => by cases hp⟩
  clear hb1 hall hsz0 HLn
  go_wp2_with fail
  go_loopw [10, 11, 13] (fun wv mv iv wr => ∃ (k : Nat) (ws : List Int) (mk : List (List UInt8 × Int)), k ≤ Ls.length ∧ iv = .int .i64 k ∧ PsInv w Ls (.slice aa Ls.length ac) k ws mk wv mv wr ∧ Hid (passD lb ga k ((Ls.map toksD).drop k) ws mk = passD lb ga 0 (Ls.map toksD) [] [])) (fun _ _ iv _ => Ls.length - (intOf iv).toNat)
  case atStart => exact ⟨0, [], [], Nat.zero_le _, rfl, HI0.out, rfl⟩
  case round =>
    obtain ⟨k, ws, mk, hk, hiv, hinv, HG⟩ := hrel
    obtain ⟨wa, wc, hwv⟩ := owns_len hinv.wd
    obtain ⟨ma, mc, hmv⟩ := owns_len hinv.mr
    subst hiv hwv hmv
    have HI := hide hinv
    have hwz := hinv.size
    by_cases hlt : k < Ls.length
    · have hlt' : (k : Int) < (Ls.length : Int) := by omega
      obtain ⟨ag, acap, hform, _, hagl⟩ := hinv.al.form (by omega)
      cases hform
      have hcell : wr.cell? ⟨ag, k, none⟩ = some (.string Ls[k]) := (hinv.al.cellAt k (by omega)).trans (by unfold strCs; rw [List.getElem?_map, List.getElem?_eq_getElem hlt]; rfl)
      have HDr : Hid ((Ls.map toksD).drop k = toksD Ls[k] :: (Ls.map toksD).drop (k + 1)) := by
        unfold Hid
        rw [List.drop_eq_getElem_cons (by simpa using hlt), List.getElem_map]
      have hV := HVal.out Ls[k] (by simp)
      have hD := HDl.out Ls[k] (by simp)
      generalize Ls[k] = x at *
      have HTk := hide (tokens_any x wr hV.2 hV.1)
      generalize toksD x = td at *
      obtain ⟨l, en⟩ := td
      simp only at HTk hD
      have hstep := HG.out
      rw [HDr.out, passD] at hstep
      have HS := hide hstep
      clear hstep HG HDr hinv hV
      have HD := hide hD
      go_wp2_with fail
      refine (unhide HTk).mono ?_
      rintro e w2 ⟨hb2, lv, rfl, hlo⟩
      have HI2 := hide (HI.out.above hb2)
      have hlsl := dtoks_sl hlo
      have hsz2 := hb2.size
      have HLow : Hid (∀ a m c, lv = .slice (some a) m c → wr.heap.size ≤ a.block) := fun a m c e => (row_lt hlo a.block (by rw [e]; rfl)).1
      clear hb2 hlo HTk hcell
      cases l with
      | nil =>
        obtain ⟨a, cap, rfl, _, _⟩ := hlsl
        have HS2 : Hid (passD lb ga (k + 1) ((Ls.map toksD).drop (k + 1)) ws mk = passD lb ga 0 (Ls.map toksD) [] []) := HS
        clear HS hD
        go_wp2_with fail
        go_quiet (fail)
        go_wp2_with fail
        exact ⟨⟨k + 1, ws, mk, by omega, by go_num, (HI2.out.above (below_drewN (Below.refl _ _) nq)).next, HS2⟩, by simp [intOf]; omega⟩
      | cons t ts =>
        obtain ⟨a, cap, rfl, hcap, hrow⟩ := hlsl
        obtain ⟨g, off, rfl, hr⟩ := hrow (by simp)
        obtain ⟨x0, x1⟩ := hr 0 t (by simp)
        simp only [Nat.zero_mul, Nat.add_zero] at x0 x1
        have HRw := hide hr
        obtain ⟨hv0, hv1, hv2⟩ := hD.1 t (by simp)
        have hgb := bt_get t.1 (t.1.size - 1) (by omega)
        have hbl2 := bt_lt t.1 (t.1.size - 1)
        have hwr1 : IntKind.i64.wrap ((t.1.size : Int) - 1) = (t.1.size : Int) - 1 := IntWalk.i64_in _ ⟨by omega, by omega⟩
        have hto1 : ((t.1.size : Int) - 1).toNat = t.1.size - 1 := by omega
        have hsz1' : (1 : Int) ≤ (t.1.size : Int) := by omega
        have hcapl : ts.length + 1 ≤ cap := hcap
        have hcb := col_bt t.1 hv1
        clear hrow hr hD
        by_cases hcol : colB t.1.data.toList = true
        · have h58 : bt t.1 (t.1.size - 1) = 58 := hcb.1 hcol
          have h58' : (bt t.1 (t.1.size - 1) : Int) = 58 := by omega
          clear hcb
          go_wp2_with fail
          go_quiet (fail)
          revert nq
          intro nq1
          go_wp2_with fail
          go_quiet (fail)
          have HVn := hide (hv0.cut hv1 (by omega))
          have hsn : (t.1.extract 0 (t.1.size - 1)).size ≤ 2000 := by rw [ByteArray.size_extract]; omega
          have HSC := HS.out
          rw [lineD, if_pos hcol] at HSC
          have HSC' := hide HSC
          have HNe : Hid (nmD t.1 = t.1.extract 0 (t.1.size - 1)) := rfl
          rw [HNe.out] at HSC'
          generalize t.1.extract 0 (t.1.size - 1) = nm at *
          have HIW0 : Hid (PsInv w Ls (.slice (some ⟨ag, 0, none⟩) Ls.length ac) k ws mk (.slice wa ws.length wc) (.slice ma mk.length mc) (w2.drewN (nq1 + nq))) := HI2.out.above (below_drewN (Below.refl _ _) _)
          have HRw0 : Hid (∀ j, (w2.drewN (nq1 + nq)).cell? ⟨g, j, none⟩ = w2.cell? ⟨g, j, none⟩) := fun j => World.cell?_of_block (w := w2) rfl
          go_wp2_with fail
          generalize w2.drewN (nq1 + nq) = W at *
          have HIW := HIW0
          have v0 := (HRw0.out _).trans x0
          have v1 := (HRw0.out _).trans x1
          clear HSC HS HNe hgb hbl2 hwr1 hto1 hsz1' h58 h58' hcol x0 x1 HI2
          obtain ⟨p0, p1, pf⟩ := HIW.out.place
          have hzW : w.heap.size < W.heap.size := by have := HIW.out.size; omega
          have hgW : g < W.heap.size := block_lt_of_cell v0
          have HBW := hide HIW.out.below
          have HMl : Hid (mk.length ≤ 5000) := by have := HIW.out.ml; show mk.length ≤ 5000; omega
          have HFd := hide (find_any nm _ _ mk W HIW.out.mr HMl.out)
          cases hnm : nmI nm
          · have HNm : Hid (∀ w', Calls Tryd.prog 115 #[.string nm] w' fun e' w'' => e' = .returned (.bool false) ∧ w'' = w') := fun w' => by have := name_any nm w' hsn HVn.out; rw [hnm] at this; exact this
            have HF : Hid (passD lb ga 0 (Ls.map toksD) [] [] = .inr ((k : Int) + 1, t.2, 4)) := by
              have := HSC'.out
              rw [if_pos hnm] at this
              exact this.symm
            clear HSC' hnm
            refine (unhide HNm _).mono ?_
            rintro e w' ⟨rfl, hw'⟩
            obtain rfl := hw'.symm
            go_wp2_with fail
            refine (unhide HFd).mono ?_
            rintro e w' ⟨rfl, hw'⟩
            obtain rfl := hw'.symm
            go_wp2_with fail
            refine still_tail 3 (by kernel_rfl) (by kernel_rfl) ?_
            simp only [List.take_succ_cons, List.take_zero, List.drop_succ_cons, List.drop_zero]
            repeat still_step
            refine wpStill_nil ?_
            go_wp2_with fail
            refine bodyPost_ret (v := .tuple #[.slice none 0 0, .slice none 0 0, .agg #[.int .i64 ((k : Int) + 1), .int .i64 t.2], .int .i64 4]) (by simp [results, Tryd.results72, go_sem, p0, p1, hzW]) rfl ?_
            unfold PsPost
            refine ⟨?_, .inr ⟨_, _, _, HF.out, by decide, rfl⟩⟩
            have y : Below w.heap.size w ((W.setCell ⟨w.heap.size, 0, none⟩ (.int .i64 ((k : Int) + 1))).setCell ⟨w.heap.size, 1, none⟩ (.int .i64 t.2)) := (HBW.out.setCell (p := ⟨w.heap.size, 0, none⟩) (Nat.le_refl _) _).setCell (p := ⟨w.heap.size, 1, none⟩) (Nat.le_refl _) _
            exact (y.alloc y.size _).drew
          · have HNm : Hid (∀ w', Calls Tryd.prog 115 #[.string nm] w' fun e' w'' => e' = .returned (.bool true) ∧ w'' = w') := fun w' => by have := name_any nm w' hsn HVn.out; rw [hnm] at this; exact this
            have HSD := HSC'.out
            rw [if_neg (by rw [hnm]; decide)] at HSD
            clear HSC' hnm
            cases hlk : mk.lookup nm.data.toList with
            | some lv =>
              rw [hlk] at HFd
              have hlv := (HIW.out.mb _ (lookup_in hlk)).1
              simp only at hlv
              simp only [Option.getD_some] at HFd
              have HF : Hid (passD lb ga 0 (Ls.map toksD) [] [] = .inr ((k : Int) + 1, t.2, 6)) := by
                rw [if_pos (by rw [hlk]; rfl)] at HSD
                exact HSD.symm
              clear HSD hlk
              refine (unhide HNm _).mono ?_
              rintro e w' ⟨rfl, hw'⟩
              obtain rfl := hw'.symm
              go_wp2_with fail
              refine (unhide HFd).mono ?_
              rintro e w' ⟨rfl, hw'⟩
              obtain rfl := hw'.symm
              go_wp2_with fail
              refine still_tail 3 (by kernel_rfl) (by kernel_rfl) ?_
              simp only [List.take_succ_cons, List.take_zero, List.drop_succ_cons, List.drop_zero]
              repeat still_step
              refine wpStill_nil ?_
              go_wp2_with fail
              refine bodyPost_ret (v := .tuple #[.slice none 0 0, .slice none 0 0, .agg #[.int .i64 ((k : Int) + 1), .int .i64 t.2], .int .i64 6]) (by simp [results, Tryd.results72, go_sem, p0, p1, hzW]) rfl ?_
              unfold PsPost
              refine ⟨?_, .inr ⟨_, _, _, HF.out, by decide, rfl⟩⟩
              have y : Below w.heap.size w ((W.setCell ⟨w.heap.size, 0, none⟩ (.int .i64 ((k : Int) + 1))).setCell ⟨w.heap.size, 1, none⟩ (.int .i64 t.2)) := (HBW.out.setCell (p := ⟨w.heap.size, 0, none⟩) (Nat.le_refl _) _).setCell (p := ⟨w.heap.size, 1, none⟩) (Nat.le_refl _) _
              exact (y.alloc y.size _).drew
            | none =>
              rw [hlk] at HFd
              simp only [Option.getD_none] at HFd
              rw [if_neg (by rw [hlk]; decide)] at HSD
              have HSE := hide HSD
              have hwl := HIW.out.wl
              have hml := HMl.out
              have HNw : Hid (∀ c, ∀ (j : Nat) (u : Value), (lbC (nm.data.toList, (ws.length : Int)))[j]? = some u → ((W.alloc c).alloc (.cells #[.string nm, .int .i64 (ws.length : Int)] 162)).cell? ((⟨W.heap.size + 1, 0, none⟩ : Addr).add j) = some u) := fun c => by
                have hb := _root_.Go.heap_alloc_new (W.alloc c) (.cells #[.string nm, .int .i64 (ws.length : Int)] 162)
                rw [size_alloc1] at hb
                exact World.news_of_block hb
              clear HSD hlk
              refine (unhide HNm _).mono ?_
              rintro e w' ⟨rfl, hw'⟩
              obtain rfl := hw'.symm
              go_wp2_with fail
              refine (unhide HFd).mono ?_
              rintro e w' ⟨rfl, hw'⟩
              obtain rfl := hw'.symm
              have hgbase : wr.heap.size ≤ g := HLow.out _ _ _ rfl
              have HK5 : Hid (∀ w5, ((W.alloc (.cells #[.int .i64 ((k : Int) + 1), .int .i64 t.2] 41)).alloc (.cells #[.string nm, .int .i64 (ws.length : Int)] 162)).grownBy w5 (Value.slice ma mk.length mc).ownBlock → ∀ j, w5.cell? ⟨g, j, none⟩ = W.cell? ⟨g, j, none⟩) := fun w5 hgr j => by
                rw [hgr.cell_far ⟨g, j, none⟩ (by rw [size_alloc1, size_alloc1]; show g < _; omega) (fun e => by have := (row_lt HI.out.mr g e.symm).2; omega)]
                rw [World.cell?_alloc_past (hn := by rw [size_alloc1]; omega), World.cell?_alloc_past (hn := by omega)]
              have HSI0 := HSE.out
              clear HSE
              rcases ts with _ | ⟨hd, tl⟩
              · have HS2 : Hid (passD lb ga (k + 1) ((Ls.map toksD).drop (k + 1)) ws (mk ++ [(nm.data.toList, (ws.length : Int))]) = passD lb ga 0 (Ls.map toksD) [] []) := HSI0
                clear HSI0 HK5
                by_cases hc1 : cap = 1
                · subst hc1
                  go_wp2_with (at_builtin; refine wpList_append_lies _ rfl _ _ 108 rfl (w.heap.size + 1) 162 inl _ 2 24 Tryd.underlying108 HInl.out HZl.out HSzl.out HByl.out rfl (by decide) (.slice ma mk.length mc) mk.length (lbCs mk) rfl (((HIW.out.mr).alloc _).alloc _) ⟨W.heap.size + 1, 0, none⟩ 1 1 (lbC (nm.data.toList, (ws.length : Int))) rfl rfl (HNw.out _) (fun u hu => by simp [lbC] at hu; rcases hu with rfl | rfl <;> rfl) (by decide) (by unfold maxLen; omega) (by omega) (by rw [size_alloc1, size_alloc1]; omega) (W.heap.size + 1 + 1) (by rw [size_alloc1, size_alloc1]) ?_; intro g3' cap3 w5 hown3 hgr3 hat3 hlt3; have HIM := hide (((HIW.out.above ((Below.refl _ _).alloc (Nat.le_refl _) _)).above ((Below.refl _ _).alloc (Nat.le_refl _) _)).appM (nm.data.toList, (ws.length : Int)) g3' cap3 hown3 hgr3 (by have := HIW.out.wl; simp only; omega)); have HG3 := hide hgr3; clear hown3 hgr3 hat3)
                  go_roundw
                  case rel => exact ⟨k + 1, ws, _, by omega, by go_num, HIM.out, HS2⟩
                  case measure => simp [intOf]; omega
                · go_wp2_with (at_builtin; refine wpList_append_lies _ rfl _ _ 108 rfl (w.heap.size + 1) 162 inl _ 2 24 Tryd.underlying108 HInl.out HZl.out HSzl.out HByl.out rfl (by decide) (.slice ma mk.length mc) mk.length (lbCs mk) rfl (((HIW.out.mr).alloc _).alloc _) ⟨W.heap.size + 1, 0, none⟩ 1 1 (lbC (nm.data.toList, (ws.length : Int))) rfl rfl (HNw.out _) (fun u hu => by simp [lbC] at hu; rcases hu with rfl | rfl <;> rfl) (by decide) (by unfold maxLen; omega) (by omega) (by rw [size_alloc1, size_alloc1]; omega) (W.heap.size + 1 + 1) (by rw [size_alloc1, size_alloc1]) ?_; intro g3' cap3 w5 hown3 hgr3 hat3 hlt3; have HIM := hide (((HIW.out.above ((Below.refl _ _).alloc (Nat.le_refl _) _)).above ((Below.refl _ _).alloc (Nat.le_refl _) _)).appM (nm.data.toList, (ws.length : Int)) g3' cap3 hown3 hgr3 (by have := HIW.out.wl; simp only; omega)); have HG3 := hide hgr3; clear hown3 hgr3 hat3)
                  go_roundw
                  case rel => exact ⟨k + 1, ws, _, by omega, by go_num, HIM.out, HS2⟩
                  case measure => simp [intOf]; omega
              · have hc1 : ¬ cap = 1 := by simp at hcapl; omega
                have HSI : Hid ((match (match insD lb ga k en (hd :: tl) ws with | .inl ws' => (.inl (ws', mk ++ [(nm.data.toList, (ws.length : Int))]) : (List Int × List (List UInt8 × Int)) ⊕ (Int × Int × Int)) | .inr f => .inr f) with | .inl (ws', mk'') => passD lb ga (k + 1) ((Ls.map toksD).drop (k + 1)) ws' mk'' | .inr f => .inr f) = passD lb ga 0 (Ls.map toksD) [] []) := HSI0
                clear HSI0
                go_wp2_with (at_builtin; refine wpList_append_lies _ rfl _ _ 108 rfl (w.heap.size + 1) 162 inl _ 2 24 Tryd.underlying108 HInl.out HZl.out HSzl.out HByl.out rfl (by decide) (.slice ma mk.length mc) mk.length (lbCs mk) rfl (((HIW.out.mr).alloc _).alloc _) ⟨W.heap.size + 1, 0, none⟩ 1 1 (lbC (nm.data.toList, (ws.length : Int))) rfl rfl (HNw.out _) (fun u hu => by simp [lbC] at hu; rcases hu with rfl | rfl <;> rfl) (by decide) (by unfold maxLen; omega) (by omega) (by rw [size_alloc1, size_alloc1]; omega) (W.heap.size + 1 + 1) (by rw [size_alloc1, size_alloc1]) ?_; intro g3' cap3 w5 hown3 hgr3 hat3 hlt3; have HIM := hide (((HIW.out.above ((Below.refl _ _).alloc (Nat.le_refl _) _)).above ((Below.refl _ _).alloc (Nat.le_refl _) _)).appM (nm.data.toList, (ws.length : Int)) g3' cap3 hown3 hgr3 (by have := HIW.out.wl; simp only; omega)); have HG3 := hide hgr3; clear hown3 hgr3 hat3; have kg : ∀ j, w5.cell? ⟨g, j, none⟩ = W.cell? ⟨g, j, none⟩ := HK5.out w5 HG3.out)
                have hbw : Below w.heap.size w w5 := HIM.out.below
                have hlsl2 : DSl w5 (.slice (some ⟨g, off + 2, none⟩) (hd :: tl).length (cap - 1)) (hd :: tl) := ⟨_, _, rfl, by simp at hcapl ⊢; omega, fun _ => ⟨g, off + 2, rfl, fun i p hi => by
                  have := HRw.out (i + 1) p (by simpa using hi)
                  rw [show off + (i + 1) * 2 = off + 2 + i * 2 by omega] at this
                  exact ⟨((kg _).trans (HRw0.out _)).trans this.1, ((kg _).trans (HRw0.out _)).trans this.2⟩⟩⟩
                have x1q : w5.cell? ⟨g, off + 2 + 1, none⟩ = some (.int .i64 hd.2) := by
                  obtain ⟨g', off', e1, e2⟩ := hlsl2.choose_spec.choose_spec.2.2 (by simp)
                  have := HRw.out 1 hd rfl
                  rw [Nat.one_mul] at this
                  exact ((kg _).trans (HRw0.out _)).trans this.2
                have HOne := hide (one_any hd tl en B vl lb ga _ _ hlsl2 (own_grow HL.out hbw) hll HLb.out (fun p hp => ⟨(HD.out.1 p (List.mem_cons_of_mem _ (List.mem_cons_of_mem _ hp))).1, (HD.out.1 p (List.mem_cons_of_mem _ (List.mem_cons_of_mem _ hp))).2.2⟩) (by have := HD.out.2; simp at this; omega))
                simp only [List.length_cons] at HOne
                clear hlsl2 hbw kg p0 p1 pf v0 v1
                refine (unhide HOne).mono ?_
                rintro e w4 ⟨hb4, rfl⟩
                have HI4 := hide (HIM.out.above hb4)
                have y1 := (below_cell' hb4 _ _ (block_lt_of_cell x1q)).trans x1q
                have hsz4 := HI4.out.size
                have HB4 := hide HI4.out.below
                obtain ⟨p0, p1, pf⟩ := HI4.out.place
                obtain ⟨i1, i2, i3⟩ := pass_ins HSI.out
                have HI1 := hide i1; have HI2' := hide i2; have HI3 := hide i3
                clear hb4 HOne HSI i1 i2 i3
                generalize oneD hd tl en lb ga = r at *
                obtain ⟨rw1, re, rc⟩ := r
                simp only at HI1 HI2' HI3 ⊢
                have hzz : w.heap.size < w4.heap.size := by omega
                by_cases hre : re = 0
                · subst hre
                  by_cases hmany : 128 ≤ ws.length
                  · have hmany' : (128 : Int) ≤ (ws.length : Int) := by omega
                    have HF := hide (HI2'.out rfl hmany)
                    clear HI1 HI2' HI3
                    go_wp2_with fail
                    go_quiet (fail)
                    go_wp2_with fail
                    refine bodyPost_ret (v := .tuple #[.slice none 0 0, .slice none 0 0, .agg #[.int .i64 ((k : Int) + 1), .int .i64 hd.2], .int .i64 5]) (by simp [results, Tryd.results72, go_sem, p0, p1]) rfl ?_
                    unfold PsPost
                    exact ⟨((below_drewN HB4.out _).setCell (p := ⟨w.heap.size, 0, none⟩) (Nat.le_refl _) _).setCell (p := ⟨w.heap.size, 1, none⟩) (Nat.le_refl _) _, .inr ⟨_, _, _, HF.out, by decide, rfl⟩⟩
                  · have hmany' : ¬ (128 : Int) ≤ (ws.length : Int) := by omega
                    have HF := hide (HI1.out rfl hmany)
                    clear HI1 HI2' HI3
                    go_wp2_with (at_builtin; refine wpList_append_lies _ rfl _ _ 36 rfl (w.heap.size + 1) 3 inf _ 1 8 Tryd.underlying36 HInf.out HZ.out HSz.out HBy.out rfl (by decide) (.slice wa ws.length wc) ws.length (intCs ws) rfl (HI4.out.wd.alloc _) ⟨w4.heap.size, 0, none⟩ 1 1 [.int .i64 rw1] rfl rfl (World.news_of_block (_root_.Go.heap_alloc_new w4 _)) (fun u hu => by simp at hu; subst hu; rfl) (by decide) (by unfold maxLen; omega) (by omega) (by rw [size_alloc1]; omega) (w4.heap.size + 1) (by rw [size_alloc1]) ?_; intro g2' cap2 w5 hown2 hgr2 hat2 hlt2; have HO2 := hide hown2; have HGr := hide hgr2; clear hown2 hgr2 hat2)
                    go_roundw
                    case rel => exact ⟨k + 1, ws ++ [rw1], (mk ++ [(nm.data.toList, (ws.length : Int))]), by omega, by go_num, (((HI4.out.above ((Below.refl _ _).alloc (Nat.le_refl _) _)).appW rw1 g2' cap2 HO2.out HGr.out (by omega))), HF⟩
                    case measure => simp [intOf]; omega
                · have hreb : (re == 0) = false := by rw [beq_eq_false_iff_ne]; exact hre
                  have HF := hide (HI3.out hre)
                  clear HI1 HI2' HI3
                  go_wp2_with fail
                  refine bodyPost_ret (v := .tuple #[.slice none 0 0, .slice none 0 0, .agg #[.int .i64 ((k : Int) + 1), .int .i64 rc], .int .i64 re]) (by simp [results, Tryd.results72, go_sem, p0, p1]) rfl ?_
                  unfold PsPost
                  exact ⟨(HB4.out.setCell (p := ⟨w.heap.size, 0, none⟩) (Nat.le_refl _) _).setCell (p := ⟨w.heap.size, 1, none⟩) (Nat.le_refl _) _, .inr ⟨_, _, _, HF.out, hre, rfl⟩⟩
        · have h58 : ¬ bt t.1 (t.1.size - 1) = 58 := fun e => hcol (hcb.2 e)
          have h58' : ¬ (bt t.1 (t.1.size - 1) : Int) = 58 := by omega
          have h58b : ((bt t.1 (t.1.size - 1) : Int) == 58) = false := by rw [beq_eq_false_iff_ne]; exact h58'
          clear hcb
          go_wp2_with fail
          go_quiet (fail)
          go_wp2_with fail
          have HIq := hide (HI2.out.above (below_drewN (Below.refl _ _) nq))
          have HSI : Hid ((match (match insD lb ga k en (t :: ts) ws with | .inl ws' => (.inl (ws', mk) : (List Int × List (List UInt8 × Int)) ⊕ (Int × Int × Int)) | .inr f => .inr f) with | .inl (ws', mk'') => passD lb ga (k + 1) ((Ls.map toksD).drop (k + 1)) ws' mk'' | .inr f => .inr f) = passD lb ga 0 (Ls.map toksD) [] []) := by
            have := HS.out
            rw [lineD, if_neg hcol] at this
            exact this
          have hbw : Below w.heap.size w (w2.drewN nq) := HIq.out.below
          have hlsl2 : DSl (w2.drewN nq) (.slice (some ⟨g, off, none⟩) (t :: ts).length cap) (t :: ts) := ⟨_, _, rfl, hcapl, fun _ => ⟨g, off, rfl, fun i p hi => ⟨(World.cell?_of_block (w := w2) rfl).trans (HRw.out i p hi).1, (World.cell?_of_block (w := w2) rfl).trans (HRw.out i p hi).2⟩⟩⟩
          have HOne := hide (one_any t ts en B vl lb ga _ _ hlsl2 (own_grow HL.out hbw) hll HLb.out (fun p hp => ⟨(HD.out.1 p (List.mem_cons_of_mem _ hp)).1, (HD.out.1 p (List.mem_cons_of_mem _ hp)).2.2⟩) (by have := HD.out.2; simp at this; omega))
          simp only [List.length_cons] at HOne
          have x1q : (w2.drewN nq).cell? ⟨g, off + 1, none⟩ = some (.int .i64 t.2) := x1
          clear hlsl2 hbw HS
          refine (unhide HOne).mono ?_
          rintro e w4 ⟨hb4, rfl⟩
          have HI4 := hide (HIq.out.above hb4)
          have y1 := (below_cell' hb4 _ _ (block_lt_of_cell x1q)).trans x1q
          have hsz4 := HI4.out.size
          have HB4 := hide HI4.out.below
          obtain ⟨p0, p1, pf⟩ := HI4.out.place
          obtain ⟨i1, i2, i3⟩ := pass_ins HSI.out
          have HI1 := hide i1; have HI2' := hide i2; have HI3 := hide i3
          clear hb4 HOne HSI i1 i2 i3
          generalize oneD t ts en lb ga = r at *
          obtain ⟨rw1, re, rc⟩ := r
          simp only at HI1 HI2' HI3 ⊢
          have hzz : w.heap.size < w4.heap.size := by omega
          by_cases hre : re = 0
          · subst hre
            by_cases hmany : 128 ≤ ws.length
            · have hmany' : (128 : Int) ≤ (ws.length : Int) := by omega
              have HF := hide (HI2'.out rfl hmany)
              clear HI1 HI2' HI3
              go_wp2_with fail
              go_quiet (fail)
              go_wp2_with fail
              refine bodyPost_ret (v := .tuple #[.slice none 0 0, .slice none 0 0, .agg #[.int .i64 ((k : Int) + 1), .int .i64 t.2], .int .i64 5]) (by simp [results, Tryd.results72, go_sem, p0, p1]) rfl ?_
              unfold PsPost
              exact ⟨((below_drewN HB4.out _).setCell (p := ⟨w.heap.size, 0, none⟩) (Nat.le_refl _) _).setCell (p := ⟨w.heap.size, 1, none⟩) (Nat.le_refl _) _, .inr ⟨_, _, _, HF.out, by decide, rfl⟩⟩
            · have hmany' : ¬ (128 : Int) ≤ (ws.length : Int) := by omega
              have HF := hide (HI1.out rfl hmany)
              clear HI1 HI2' HI3
              go_wp2_with (at_builtin; refine wpList_append_lies _ rfl _ _ 36 rfl (w.heap.size + 1) 3 inf _ 1 8 Tryd.underlying36 HInf.out HZ.out HSz.out HBy.out rfl (by decide) (.slice wa ws.length wc) ws.length (intCs ws) rfl (HI4.out.wd.alloc _) ⟨w4.heap.size, 0, none⟩ 1 1 [.int .i64 rw1] rfl rfl (World.news_of_block (_root_.Go.heap_alloc_new w4 _)) (fun u hu => by simp at hu; subst hu; rfl) (by decide) (by unfold maxLen; omega) (by omega) (by rw [size_alloc1]; omega) (w4.heap.size + 1) (by rw [size_alloc1]) ?_; intro g2' cap2 w5 hown2 hgr2 hat2 hlt2; have HO2 := hide hown2; have HGr := hide hgr2; clear hown2 hgr2 hat2)
              go_roundw
              case rel => exact ⟨k + 1, ws ++ [rw1], mk, by omega, by go_num, (((HI4.out.above ((Below.refl _ _).alloc (Nat.le_refl _) _)).appW rw1 g2' cap2 HO2.out HGr.out (by omega))).next, HF⟩
              case measure => simp [intOf]; omega
          · have hreb : (re == 0) = false := by rw [beq_eq_false_iff_ne]; exact hre
            have HF := hide (HI3.out hre)
            clear HI1 HI2' HI3
            go_wp2_with fail
            refine bodyPost_ret (v := .tuple #[.slice none 0 0, .slice none 0 0, .agg #[.int .i64 ((k : Int) + 1), .int .i64 rc], .int .i64 re]) (by simp [results, Tryd.results72, go_sem, p0, p1]) rfl ?_
            unfold PsPost
            exact ⟨(HB4.out.setCell (p := ⟨w.heap.size, 0, none⟩) (Nat.le_refl _) _).setCell (p := ⟨w.heap.size, 1, none⟩) (Nat.le_refl _) _, .inr ⟨_, _, _, HF.out, hre, rfl⟩⟩
    · have hkn : k = Ls.length := by omega
      have hlt' : ¬ (k : Int) < (Ls.length : Int) := by omega
      have HF : Hid (passD lb ga 0 (Ls.map toksD) [] [] = .inl (ws, mk)) := by
        unfold Hid
        rw [← HG.out, List.drop_of_length_le (by simp; omega), passD]
      obtain ⟨p0, p1, pf⟩ := hinv.place
      have hml := hinv.ml
      clear hinv HG
      go_wp2_with fail
      refine bodyPost_ret (v := .tuple #[.slice wa ws.length wc, .slice ma mk.length mc, .agg #[.int .i64 0, .int .i64 0], .int .i64 0]) (by simp [results, Tryd.results72, go_sem, p0, p1]) rfl ?_
      unfold PsPost
      have keep : ∀ {e : TypeId} {kk n : Nat} {v : Value} {xs : List Value}, wr.ownsRow (w.heap.size + 1) e kk v n xs → ((wr.setCell ⟨w.heap.size, 0, none⟩ (.int .i64 0)).setCell ⟨w.heap.size, 1, none⟩ (.int .i64 0)).ownsRow w.heap.size e kk v n xs := fun ho =>
        (ownsRow_keep ho (fun g hg => by
          have hgB := (row_lt ho g hg).1
          have hgne : g ≠ w.heap.size := by omega
          exact (heap_set_other _ _ hgne).trans (heap_set_other _ _ hgne))).mono (Nat.le_succ _)
      exact ⟨(HI.out.below.setCell (p := ⟨w.heap.size, 0, none⟩) (Nat.le_refl _) _).setCell (p := ⟨w.heap.size, 1, none⟩) (Nat.le_refl _) _, .inl ⟨ws, mk, _, _, HF.out, keep HI.out.wd, keep HI.out.mr, by omega, HI.out.mb, rfl⟩⟩
end Go.Proofs.YtmmflekajbeamaaDoor
