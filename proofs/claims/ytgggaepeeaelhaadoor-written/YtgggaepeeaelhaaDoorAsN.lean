/-
  The labels' places are added to the words that use them (fillLabels).
-/
import Derived.Test.YtgggaepeeaelhaaDoorAsM
import Derived.Laws.OwnMore
namespace Go.Proofs.YtgggaepeeaelhaaDoor
open Go.RowKit Go.Maps Go.WideMaps

theorem readLine_any (B N : Nat) (ps : PS) (vw : Value) (b : Nat) (vu : Value) (v : Value) (line : List Tok) (w : World) (h : ProgAt B N ps vw b vu w) (ht : Tab w) (hsl : SlAt w v line) (hlow : ∀ a m c, v = .slice (some a) m c → a.block < B)
    (hpl : line.length ≤ 5000) (hts : ∀ t' ∈ line, 1 ≤ t'.text.size ∧ t'.text.size ≤ 2000) (hwl : ps.words.length ≤ 128) (hul : ps.uses.length + 3 ≤ 5000) (hll : ps.labels.length ≤ 5000) :
    Calls Tryd.prog 124 #[.pointer (some ⟨N, 0, none⟩), v] w (RdPost B N b vw vu w (rdLine ps line)) := by
  cases line with
  | nil => exact readLine_nil B N ps vw b vu v w h hsl
  | cons t ts =>
    cases hlab : labB t with
    | false => exact readLine_nolab B N ps vw b vu v t ts w h ht hsl hlow hpl hts hwl hul hlab
    | true => exact readLine_lab B N ps vw b vu v t ts w h ht hsl hlow hpl hts hwl hul hll hlab

/-- Behind a store into a word. -/
theorem ProgAt.setW {B N : Nat} {ps : PS} {g n cap : Nat} {b : Nat} {vu : Value} {w : World} (h : ProgAt B N ps (.slice (some ⟨g, 0, none⟩) n cap) b vu w) (hn : n = ps.words.length) (i : Nat) (x : Int) :
    ProgAt B N { ps with words := ps.words.set i x } (.slice (some ⟨g, 0, none⟩) n cap) b vu (w.setCell ⟨g, i, none⟩ (.int .i64 x)) ∧ PFr B N b (.slice (some ⟨g, 0, none⟩) n cap) vu (.slice (some ⟨g, 0, none⟩) n cap) vu w (w.setCell ⟨g, i, none⟩ (.int .i64 x)) := by
  subst hn
  obtain ⟨a1, a2, a3, a4⟩ := h.apart
  have hgN : g ≠ N := h.nw g rfl
  have hgb : g ≠ b := fun e => a2 (e ▸ rfl)
  have hk : ∀ k, k ≠ g → (w.setCell ⟨g, i, none⟩ (.int .i64 x)).heap[k]? = w.heap[k]? := fun k hk => heap_set_other w _ hk
  have hN := hk N (fun e => hgN e.symm)
  have hBg : B ≤ g := (row_lt h.wd g rfl).1
  refine ⟨⟨(World.cell?_of_block hN).trans h.c0, (World.cell?_of_block hN).trans h.c1, (World.cell?_of_block hN).trans h.c2, fun j => (World.frozen?_of_block hN).trans (h.fz j), h.bN, h.bb, h.nw, h.nu, ?_, ?_, ?_⟩,
    ⟨(Below.refl _ _).setCell (p := ⟨g, i, none⟩) hBg _, fun k _ hni => hk k (fun e => hni (.inr (.inr (.inl (e ▸ rfl))))), fun k hi => .inl hi⟩⟩
  · have := (h.wd.stored i (.int .i64 x)).1
    unfold intCs
    rw [List.map_set]
    simp only [List.length_set]
    exact this
  · exact ownsRow_keep h.us (fun k hk' => hk k (fun e => a4 g rfl (e ▸ hk')))
  · obtain ⟨D, hm, hl⟩ := h.mp
    exact ⟨D, map_keep hm (hk b (fun e => hgb e.symm)), hl⟩

/-- A use's six cells. -/
theorem use_cells {w : World} {B : Nat} {g cap : Nat} {us : List (Nat × Tok)} (h : w.ownsRow B 213 6 (.slice (some ⟨g, 0, none⟩) us.length cap) us.length (useCs us)) (k : Nat) (u : Nat × Tok) (hk : us[k]? = some u) :
    w.cell? ⟨g, k * 6, none⟩ = some (.int .i64 (u.1 : Int)) ∧ w.cell? ⟨g, k * 6 + 1, none⟩ = some (.string u.2.text) ∧ w.cell? ⟨g, k * 6 + 1 + 1, none⟩ = some (.int .i64 u.2.fl) ∧ w.cell? ⟨g, k * 6 + 1 + 1 + 1, none⟩ = some (.int .i64 u.2.fc) ∧ w.cell? ⟨g, k * 6 + 1 + 1 + 1 + 1, none⟩ = some (.int .i64 u.2.bl) ∧ w.cell? ⟨g, k * 6 + 1 + 1 + 1 + 1 + 1, none⟩ = some (.int .i64 u.2.bc) := by
  have hlt : k < us.length := (List.getElem?_eq_some_iff.1 hk).1
  have key : ∀ j, j < 6 → (useCs us)[k * 6 + j]? = (useC u)[j]? := by
    have gen : ∀ (l : List (Nat × Tok)) (k : Nat), l[k]? = some u → ∀ j, j < 6 → (useCs l)[k * 6 + j]? = (useC u)[j]? := by
      intro l
      induction l with
      | nil => intro k hk; simp at hk
      | cons a l ih =>
        intro k hk j hj
        have hlen : (useC a).length = 6 := rfl
        show (useC a ++ useCs l)[k * 6 + j]? = _
        match k, hk with
        | 0, hk =>
          simp at hk
          subst hk
          rw [List.getElem?_append_left (by omega)]
          congr 1
          omega
        | k + 1, hk =>
          simp at hk
          rw [List.getElem?_append_right (by omega), hlen, show (k + 1) * 6 + j - 6 = k * 6 + j by omega]
          exact ih k hk j hj
    exact gen us k hk
  refine ⟨?_, ?_, ?_, ?_, ?_, ?_⟩
  · rw [h.cellAt _ (by omega)]; exact key 0 (by decide)
  · rw [h.cellAt _ (by omega)]; exact key 1 (by decide)
  · rw [h.cellAt _ (by omega)]; exact key 2 (by decide)
  · rw [h.cellAt _ (by omega)]; exact key 3 (by decide)
  · rw [h.cellAt _ (by omega)]; exact key 4 (by decide)
  · rw [h.cellAt _ (by omega)]; exact key 5 (by decide)

/-- What a filling of labels leaves. -/
def FlPost (B N b : Nat) (vw vu : Value) (ps : PS) (w : World) (r : List Int ⊕ (Int × Int × Int)) (e' : Ending) (w' : World) : Prop :=
  PFr B N b vw vu vw vu w w' ∧ w'.cell? ⟨N, 0, none⟩ = some vw ∧ ((∃ ws, r = .inl ws ∧ ws.length = ps.words.length ∧ ProgAt B N { ps with words := ws } vw b vu w' ∧ e' = .returned (.agg #[.int .i64 0, .int .i64 0, .int .i64 0])) ∨ ∃ l c e, r = .inr (l, c, e) ∧ e ≠ 0 ∧ e' = .returned (.agg #[.int .i64 l, .int .i64 c, .int .i64 e]))

set_option maxRecDepth 100000 in
set_option maxHeartbeats 4000000 in
theorem fill_any (B N : Nat) (ps : PS) (vw : Value) (b : Nat) (vu : Value) (w : World) (h : ProgAt B N ps vw b vu w) (hus : ∀ u ∈ ps.uses, u.1 < ps.words.length ∧ u.2.text.size ≤ 2000) (hwl : ps.words.length ≤ 128) (hul : ps.uses.length ≤ 5000)
    (hwb : ∀ x ∈ ps.words, 0 ≤ x ∧ x ≤ 4294967296) (hlb : ∀ k x, ps.labels.lookup k = some x → 0 ≤ x ∧ x ≤ 128) :
    Calls Tryd.prog 125 #[.pointer (some ⟨N, 0, none⟩)] w (FlPost B N b vw vu ps w (fillGo ps.labels ps.uses ps.words)) := by
  obtain ⟨wa, wc, rfl⟩ := owns_len h.wd
  obtain ⟨ua, uc, rfl⟩ := owns_len h.us
  have hBw : B ≤ w.heap.size := Nat.le_trans h.bN (Nat.le_of_lt h.nlt)
  have c2 := h.c2
  have hNlt := h.nlt
  have HP := hide h
  have HUs := hide hus; have HLb := hide hlb; have HWb := hide hwb
  clear h hus hlb hwb
  go_enter Tryd.func125, Tryd.ntmps125
  go_wp2_with fail
  go_loopw [12] (fun i wr => ∃ (k : Nat) (ws : List Int), k ≤ ps.uses.length ∧ i = .int .i64 k ∧ ws.length = ps.words.length ∧ ProgAt B N { ps with words := ws } (.slice wa ps.words.length wc) b (.slice ua ps.uses.length uc) wr ∧ PFr B N b (.slice wa ps.words.length wc) (.slice ua ps.uses.length uc) (.slice wa ps.words.length wc) (.slice ua ps.uses.length uc) w wr ∧ F0 wr w.heap.size ∧ Hid (∀ x ∈ ws, 0 ≤ x ∧ x ≤ 4294967296 + 128 * (k : Int)) ∧ Hid (fillGo ps.labels (ps.uses.drop k) ws = fillGo ps.labels ps.uses ps.words)) (fun i _ => ps.uses.length - (intOf i).toNat)
  case atStart =>
    exact ⟨0, ps.words, Nat.zero_le _, rfl, rfl, HP.out.alloc _, PFr.of_below hBw ((Below.refl _ _).alloc (Nat.le_refl _) _), F0.new w, fun x hx => by have := HWb.out x hx; omega, rfl⟩
  case round =>
    obtain ⟨k, ws, hk, rfl, hwsl, hpa, hpf, hf, HWs, HG⟩ := hrel
    have HPa := hide hpa; have HPf := hide hpf; have HF := hide hf
    have hz : w.heap.size < wr.heap.size := block_lt_of_cell hf.f0
    have hni : ¬ InP N (.slice wa ps.words.length wc) b (.slice ua ps.uses.length uc) w.heap.size := fun hi => by have := (HP.out.inlt hi).2; omega
    by_cases hlt : k < ps.uses.length
    · obtain ⟨g, ucap, hform, _, hgl⟩ := hpa.us.form (by show 0 < ps.uses.length; omega)
      cases hform
      obtain ⟨x0, x1, x2, x3, x4, x5⟩ := use_cells hpa.us k ps.uses[k] (by simp [hlt])
      have hlt' : (k : Int) < (ps.uses.length : Int) := by omega
      have HUk := hide (HUs.out ps.uses[k] (by simp))
      have HDr : Hid (ps.uses.drop k = ps.uses[k] :: ps.uses.drop (k + 1)) := List.drop_eq_getElem_cons hlt
      generalize ps.uses[k] = u at *
      obtain ⟨ui, t⟩ := u
      simp only at x0 x1 x2 x3 x4 x5
      have hui : ui < ps.words.length := HUk.out.1
      obtain ⟨gw, wcap, hformw, _, hgwl⟩ := hpa.wd.form (by show 0 < ws.length; omega)
      have c0 := hpa.c0; have c1 := hpa.c1
      obtain ⟨D, hown, hlok⟩ := hpa.mp
      have hnl : t.text.size ≤ maxLen := by have := HUk.out.2; unfold maxLen; simp only at this; omega
      have hkey : keyOf Tryd.prog 9 (.string t.text) = some (.string t.text.data.toList) := keyOf_string_mk Tryd.underlying9 hnl
      obtain ⟨hh1, hh2⟩ := hlok t.text.data.toList
      have hlook := fun o => ((hown.alloc o).drew).look_ok lawS Tryd.underlying173 (zeroI _) (plainElem_int (H := Unit) Tryd.underlying3 (a := 0) (by decide)) hkey
      have hNr : N < wr.heap.size := hpa.nlt
      clear hpa hpf hf hown hlok hkey
      cases hlk : ps.labels.lookup t.text.data.toList with
      | none =>
        rw [hlk] at hh1
        have HR : Hid (fillGo ps.labels ps.uses ps.words = .inr (t.fl, t.fc, 7)) := by unfold Hid; rw [← HG.out, HDr.out, fillGo, hlk]
        have hlook2 : ∀ o, ∃ x, (Instr.lookup 173 (.map (some b)) (.string t.text) true).run Tryd.prog ((wr.alloc o).drew) = .ok (.tuple #[x, .bool false]) ((wr.alloc o).drew) := fun o => by
          obtain ⟨x, ps', hrun, hx⟩ := hlook o
          rw [hh1] at hrun
          exact ⟨x, hrun⟩
        obtain ⟨x, hrun⟩ := hlook2 (.cells #[.int .i64 (ui : Int), .string t.text, .int .i64 t.fl, .int .i64 t.fc, .int .i64 t.bl, .int .i64 t.bc] 213)
        obtain ⟨f0, f1, f2, ff⟩ := HF.out
        clear hlook hlook2 hh1 hh2 hlk HG HDr
        go_wp2_with fail
        refine still_all (by kernel_rfl) (by kernel_rfl) ?_
        repeat still_step
        refine wpStill_nil ?_
        go_wp2_with fail
        refine bodyPost_ret (v := .agg #[.int .i64 t.fl, .int .i64 t.fc, .int .i64 7]) (by simp [results, Tryd.results125, go_sem, f0, f1, f2, hz]) rfl ?_
        unfold FlPost
        have y := pfr_set3 HPf.out hBw (Nat.le_refl _) (.int .i64 t.fl) (.int .i64 t.fc) (.int .i64 7)
        have hy : B ≤ (((wr.setCell ⟨w.heap.size, 0, none⟩ (.int .i64 t.fl)).setCell ⟨w.heap.size, 1, none⟩ (.int .i64 t.fc)).setCell ⟨w.heap.size, 2, none⟩ (.int .i64 7)).heap.size := Nat.le_trans hBw y.below.size
        exact ⟨y.above hy ((Below.refl _ _).alloc (Nat.le_refl _) _).drew, (((((HPa.out.setOut hni 0 _).setOut hni 1 _).setOut hni 2 _).alloc _).drew).c0, .inr ⟨_, _, _, HR.out, by decide, rfl⟩⟩
      | some pv =>
        rw [hlk] at hh1
        have hat := hh2 pv hlk
        have HPv := hide (HLb.out _ _ hlk)
        have hlook2 : ∀ o, (Instr.lookup 173 (.map (some b)) (.string t.text) true).run Tryd.prog ((wr.alloc o).drew) = .ok (.tuple #[.int .i64 pv, .bool true]) ((wr.alloc o).drew) := fun o => by
          obtain ⟨x, ps', hrun, hx⟩ := hlook o
          rw [hh1] at hrun
          obtain ⟨a, rfl, ha, _⟩ := plainElem_int_inv Tryd.underlying3 hx
          rw [hat] at ha
          cases ha
          exact hrun
        have hrun := hlook2 (.cells #[.int .i64 (ui : Int), .string t.text, .int .i64 t.fl, .int .i64 t.fc, .int .i64 t.bl, .int .i64 t.bc] 213)
        have HG' : Hid (fillGo ps.labels (ps.uses.drop (k + 1)) (ws.set ui (ws.getD ui 0 + pv)) = fillGo ps.labels ps.uses ps.words) := by
          have := HG.out
          rw [HDr.out, fillGo, hlk] at this
          exact this
        simp only [Value.slice.injEq] at hformw
        obtain ⟨hwa, -, hwc⟩ := hformw
        subst hwa
        have hwd : wr.ownsRow B 3 1 (.slice (some ⟨gw, 0, none⟩) ps.words.length wc) ps.words.length (intCs ws) := by
          have := HPa.out.wd
          simp only [hwsl] at this
          exact this
        have hcell : wr.cell? ⟨gw, ui, none⟩ = some (.int .i64 (ws.getD ui 0)) := by
          rw [hwd.cellAt ui (by omega)]
          unfold intCs
          rw [List.getElem?_map, List.getElem?_eq_getElem (by omega : ui < ws.length), List.getD_eq_getElem?_getD, List.getElem?_eq_getElem (by omega : ui < ws.length)]
          rfl
        have hcf := hwd.frozenAt ui
        have hxb : 0 ≤ ws.getD ui 0 ∧ ws.getD ui 0 ≤ 4294967296 + 128 * (k : Int) := by
          rw [List.getD_eq_getElem?_getD, List.getElem?_eq_getElem (by omega : ui < ws.length)]
          exact HWs.out _ (by simp)
        have hsum : IntKind.i64.wrap (ws.getD ui 0 + pv) = ws.getD ui 0 + pv := by
          have := HPv.out
          exact IntWalk.i64_in _ ⟨by omega, by omega⟩
        have hui' : (ui : Int) < (ps.words.length : Int) := by omega
        generalize ws.getD ui 0 = xv at *
        have HXb := hide hxb
        have HWd := hide hwd
        clear hlook hlook2 hh1 hh2 hlk HG HDr hat hwc hxb hwd
        go_wp2_with fail
        refine still_all (by kernel_rfl) (by kernel_rfl) ?_
        repeat still_step
        refine wpStill_nil ?_
        have HW : Hid (Below wr.heap.size wr ((wr.alloc (.cells #[.int .i64 (ui : Int), .string t.text, .int .i64 t.fl, .int .i64 t.fc, .int .i64 t.bl, .int .i64 t.bc] 213)).drew) ∧ ((wr.alloc (.cells #[.int .i64 (ui : Int), .string t.text, .int .i64 t.fl, .int .i64 t.fc, .int .i64 t.bl, .int .i64 t.bc] 213)).drew).cell? ⟨wr.heap.size, 0, none⟩ = some (.int .i64 (ui : Int))) :=
          ⟨((Below.refl _ _).alloc (Nat.le_refl _) _).drew, cell_new wr _ _ 0 _ rfl⟩
        generalize (wr.alloc (.cells #[.int .i64 (ui : Int), .string t.text, .int .i64 t.fl, .int .i64 t.fc, .int .i64 t.bl, .int .i64 t.bc] 213)).drew = W at *
        obtain ⟨hbW, hW0⟩ := HW.out
        have HBW := hide hbW
        have d0 := (below_cell' hbW N 0 hNr).trans c0
        have dc := (below_cell' hbW gw ui hgwl).trans hcell
        have df : W.frozen? ⟨gw, ui, none⟩ = false := (hbW.frozen (p := ⟨gw, ui, none⟩) hgwl).trans hcf
        clear hbW hrun x0 x1 x2 x3 x4 x5 c0 c1 hcell hcf
        go_wp2_with fail
        refine still_tail 11 (by kernel_rfl) (by kernel_rfl) ?_
        simp only [List.take_succ_cons, List.take_zero, List.drop_succ_cons, List.drop_zero]
        repeat still_step
        refine wpStill_nil ?_
        go_wp2_with fail
        have HPW := HPa.out.above HBW.out
        have HFW : F0 W w.heap.size := HF.out.block (HBW.out.block _ hz)
        obtain ⟨z1, z2⟩ := HPW.setW hwsl.symm ui (xv + pv)
        have hni' : w.heap.size ≠ gw := fun e => hni (.inr (.inr (.inl (by rw [e]; rfl))))
        have hBr : B ≤ wr.heap.size := Nat.le_trans hBw (Nat.le_of_lt hz)
        refine ⟨⟨k + 1, ws.set ui (xv + pv), by omega, by go_num, by simpa using hwsl, z1.drew, ?_, (HFW.block (heap_set_other W _ hni')).block rfl, fun x hx => ?_, HG'⟩, by simp [intOf]; omega⟩
        · have hBW : B ≤ (W.setCell ⟨gw, ui, none⟩ (.int .i64 (xv + pv))).heap.size := Nat.le_trans hBr (Nat.le_trans HBW.out.size z2.below.size)
          exact ((HPf.out.above hBr HBW.out).trans z2).above hBW (Below.refl _ _).drew
        · have q1 := HPv.out
          have q2 := HXb.out
          rcases List.mem_or_eq_of_mem_set hx with h1 | h1
          · have := HWs.out x h1
            omega
          · rw [h1]
            omega
    · have hkn : k = ps.uses.length := by omega
      subst hkn
      obtain ⟨f0, f1, f2, ff⟩ := HF.out
      have HR : Hid (fillGo ps.labels ps.uses ps.words = .inl ws) := by unfold Hid; rw [← HG.out, List.drop_of_length_le (Nat.le_refl _)]; rfl
      clear hpa hpf hf HG
      go_wp2_with fail
      refine bodyPost_ret (v := .agg #[.int .i64 0, .int .i64 0, .int .i64 0]) (by simp [results, Tryd.results125, go_sem, f0, f1, f2]) rfl ?_
      unfold FlPost
      exact ⟨pfr_set3 HPf.out hBw (Nat.le_refl _) _ _ _, (((HPa.out.setOut hni 0 _).setOut hni 1 _).setOut hni 2 _).c0, .inl ⟨ws, HR.out, hwsl, ((HPa.out.setOut hni 0 _).setOut hni 1 _).setOut hni 2 _, rfl⟩⟩
end Go.Proofs.YtgggaepeeaelhaaDoor
