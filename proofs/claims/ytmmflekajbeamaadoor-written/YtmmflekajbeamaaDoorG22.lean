/-
  The labels' places are added to the words that use them (fillLabels).
  What has been read stays in its bounds; lines of tokens as slices; the program's answer to a text as a plain function.
-/
import Derived.Test.YtmmflekajbeamaaDoorG21
import Derived.Laws.OwnMore
namespace Go.Proofs.YtmmflekajbeamaaDoor
open Go.RowKit Go.Maps Go.WideMaps

theorem readLine_any (B N : Nat) (ps : PS) (vw : Value) (b : Nat) (vu : Value) (v : Value) (line : List Tok) (w : World) (h : ProgAt B N ps vw b vu w) (ht : Tab w) (hsl : SlAt w v line) (hlow : ∀ a m c, v = .slice (some a) m c → a.block < B)
    (hpl : line.length ≤ 5000) (hts : ∀ t' ∈ line, 1 ≤ t'.text.size ∧ t'.text.size ≤ 2000) (hwl : ps.words.length ≤ 128) (hul : ps.uses.length + 3 ≤ 5000) (hll : ps.labels.length ≤ 5000) :
    Calls Tryd.prog 124 #[.pointer (some ⟨N, 0, none⟩), v] w (RdPost B N b vw vu w (rdLine ps line)) := by
  cases line with
  | nil => exact readLine_nil B N ps vw b vu v w h hsl
  | cons t ts =>
    cases hlab : labB t with
    | false => exact readLine_nolab B N ps vw b vu v t ts w h ht hsl hlow hpl hts hwl hul hlab
    | true => exact readLine_lab B N ps vw b vu v t ts w h ht hsl hlow hpl hts hwl hul hll hlab

/-- Behind a store into a word. -/
theorem ProgAt.setW {B N : Nat} {ps : PS} {g n cap : Nat} {b : Nat} {vu : Value} {w : World} (h : ProgAt B N ps (.slice (some ⟨g, 0, none⟩) n cap) b vu w) (hn : n = ps.words.length) (i : Nat) (x : Int) :
    ProgAt B N { ps with words := ps.words.set i x } (.slice (some ⟨g, 0, none⟩) n cap) b vu (w.setCell ⟨g, i, none⟩ (.int .i64 x)) ∧ PFr B N b (.slice (some ⟨g, 0, none⟩) n cap) vu (.slice (some ⟨g, 0, none⟩) n cap) vu w (w.setCell ⟨g, i, none⟩ (.int .i64 x)) := by
  subst hn
  obtain ⟨a1, a2, a3, a4⟩ := h.apart
  have hgN : g ≠ N := h.nw g rfl
  have hgb : g ≠ b := fun e => a2 (e ▸ rfl)
  have hk : ∀ k, k ≠ g → (w.setCell ⟨g, i, none⟩ (.int .i64 x)).heap[k]? = w.heap[k]? := fun k hk => heap_set_other w _ hk
  have hN := hk N (fun e => hgN e.symm)
  have hBg : B ≤ g := (row_lt h.wd g rfl).1
  refine ⟨⟨(World.cell?_of_block hN).trans h.c0, (World.cell?_of_block hN).trans h.c1, (World.cell?_of_block hN).trans h.c2, fun j => (World.frozen?_of_block hN).trans (h.fz j), h.bN, h.bb, h.nw, h.nu, ?_, ?_, ?_⟩,
    ⟨(Below.refl _ _).setCell (p := ⟨g, i, none⟩) hBg _, fun k _ hni => hk k (fun e => hni (.inr (.inr (.inl (e ▸ rfl))))), fun k hi => .inl hi⟩⟩
  · have := (h.wd.stored i (.int .i64 x)).1
    unfold intCs
    rw [List.map_set]
    simp only [List.length_set]
    exact this
  · exact ownsRow_keep h.us (fun k hk' => hk k (fun e => a4 g rfl (e ▸ hk')))
  · obtain ⟨D, hm, hl⟩ := h.mp
    exact ⟨D, map_keep hm (hk b (fun e => hgb e.symm)), hl⟩

/-- A use's six cells. -/
theorem use_cells {w : World} {B : Nat} {g cap : Nat} {us : List (Nat × Tok)} (h : w.ownsRow B 213 6 (.slice (some ⟨g, 0, none⟩) us.length cap) us.length (useCs us)) (k : Nat) (u : Nat × Tok) (hk : us[k]? = some u) :
    w.cell? ⟨g, k * 6, none⟩ = some (.int .i64 (u.1 : Int)) ∧ w.cell? ⟨g, k * 6 + 1, none⟩ = some (.string u.2.text) ∧ w.cell? ⟨g, k * 6 + 1 + 1, none⟩ = some (.int .i64 u.2.fl) ∧ w.cell? ⟨g, k * 6 + 1 + 1 + 1, none⟩ = some (.int .i64 u.2.fc) ∧ w.cell? ⟨g, k * 6 + 1 + 1 + 1 + 1, none⟩ = some (.int .i64 u.2.bl) ∧ w.cell? ⟨g, k * 6 + 1 + 1 + 1 + 1 + 1, none⟩ = some (.int .i64 u.2.bc) := by
  have hlt : k < us.length := (List.getElem?_eq_some_iff.1 hk).1
  have key : ∀ j, j < 6 → (useCs us)[k * 6 + j]? = (useC u)[j]? := by
    have gen : ∀ (l : List (Nat × Tok)) (k : Nat), l[k]? = some u → ∀ j, j < 6 → (useCs l)[k * 6 + j]? = (useC u)[j]? := by
      intro l
      induction l with
      | nil => intro k hk; simp at hk
      | cons a l ih =>
        intro k hk j hj
        have hlen : (useC a).length = 6 := rfl
        show (useC a ++ useCs l)[k * 6 + j]? = _
        match k, hk with
        | 0, hk =>
          simp at hk
          subst hk
          rw [List.getElem?_append_left (by omega)]
          congr 1
          omega
        | k + 1, hk =>
          simp at hk
          rw [List.getElem?_append_right (by omega), hlen, show (k + 1) * 6 + j - 6 = k * 6 + j by omega]
          exact ih k hk j hj
    exact gen us k hk
  refine ⟨?_, ?_, ?_, ?_, ?_, ?_⟩
  · rw [h.cellAt _ (by omega)]; exact key 0 (by decide)
  · rw [h.cellAt _ (by omega)]; exact key 1 (by decide)
  · rw [h.cellAt _ (by omega)]; exact key 2 (by decide)
  · rw [h.cellAt _ (by omega)]; exact key 3 (by decide)
  · rw [h.cellAt _ (by omega)]; exact key 4 (by decide)
  · rw [h.cellAt _ (by omega)]; exact key 5 (by decide)

/-- What a filling of labels leaves. -/
def FlPost (B N b : Nat) (vw vu : Value) (ps : PS) (w : World) (r : List Int ⊕ (Int × Int × Int)) (e' : Ending) (w' : World) : Prop :=
  PFr B N b vw vu vw vu w w' ∧ w'.cell? ⟨N, 0, none⟩ = some vw ∧ ((∃ ws, r = .inl ws ∧ ws.length = ps.words.length ∧ ProgAt B N { ps with words := ws } vw b vu w' ∧ e' = .returned (.agg #[.int .i64 0, .int .i64 0, .int .i64 0])) ∨ ∃ l c e, r = .inr (l, c, e) ∧ e ≠ 0 ∧ e' = .returned (.agg #[.int .i64 l, .int .i64 c, .int .i64 e]))

set_option maxRecDepth 100000 in
set_option maxHeartbeats 4000000 in
theorem fill_any (B N : Nat) (ps : PS) (vw : Value) (b : Nat) (vu : Value) (w : World) (h : ProgAt B N ps vw b vu w) (hus : ∀ u ∈ ps.uses, u.1 < ps.words.length ∧ u.2.text.size ≤ 2000) (hwl : ps.words.length ≤ 128) (hul : ps.uses.length ≤ 5000)
    (hwb : ∀ x ∈ ps.words, 0 ≤ x ∧ x ≤ 4294967296) (hlb : ∀ k x, ps.labels.lookup k = some x → 0 ≤ x ∧ x ≤ 128) :
    Calls Tryd.prog 125 #[.pointer (some ⟨N, 0, none⟩)] w (FlPost B N b vw vu ps w (fillGo ps.labels ps.uses ps.words)) := by
  obtain ⟨wa, wc, rfl⟩ := owns_len h.wd
  obtain ⟨ua, uc, rfl⟩ := owns_len h.us
  have hBw : B ≤ w.heap.size := Nat.le_trans h.bN (Nat.le_of_lt h.nlt)
  have c2 := h.c2
  have hNlt := h.nlt
  have HP := hide h
  have HUs := hide hus; have HLb := hide hlb; have HWb := hide hwb
  clear h hus hlb hwb
  go_enter Tryd.func125, Tryd.ntmps125
  go_wp2_with fail
  go_loopw [12] (fun i wr => ∃ (k : Nat) (ws : List Int), k ≤ ps.uses.length ∧ i = .int .i64 k ∧ ws.length = ps.words.length ∧ ProgAt B N { ps with words := ws } (.slice wa ps.words.length wc) b (.slice ua ps.uses.length uc) wr ∧ PFr B N b (.slice wa ps.words.length wc) (.slice ua ps.uses.length uc) (.slice wa ps.words.length wc) (.slice ua ps.uses.length uc) w wr ∧ F0 wr w.heap.size ∧ Hid (∀ x ∈ ws, 0 ≤ x ∧ x ≤ 4294967296 + 128 * (k : Int)) ∧ Hid (fillGo ps.labels (ps.uses.drop k) ws = fillGo ps.labels ps.uses ps.words)) (fun i _ => ps.uses.length - (intOf i).toNat)
  case atStart =>
    exact ⟨0, ps.words, Nat.zero_le _, rfl, rfl, HP.out.alloc _, PFr.of_below hBw ((Below.refl _ _).alloc (Nat.le_refl _) _), F0.new w, fun x hx => by have := HWb.out x hx; omega, rfl⟩
  case round =>
    obtain ⟨k, ws, hk, rfl, hwsl, hpa, hpf, hf, HWs, HG⟩ := hrel
    have HPa := hide hpa; have HPf := hide hpf; have HF := hide hf
    have hz : w.heap.size < wr.heap.size := block_lt_of_cell hf.f0
    have hni : ¬ InP N (.slice wa ps.words.length wc) b (.slice ua ps.uses.length uc) w.heap.size := fun hi => by have := (HP.out.inlt hi).2; omega
    by_cases hlt : k < ps.uses.length
    · obtain ⟨g, ucap, hform, _, hgl⟩ := hpa.us.form (by show 0 < ps.uses.length; omega)
      cases hform
      obtain ⟨x0, x1, x2, x3, x4, x5⟩ := use_cells hpa.us k ps.uses[k] (by simp [hlt])
      have hlt' : (k : Int) < (ps.uses.length : Int) := by omega
      have HUk := hide (HUs.out ps.uses[k] (by simp))
      have HDr : Hid (ps.uses.drop k = ps.uses[k] :: ps.uses.drop (k + 1)) := List.drop_eq_getElem_cons hlt
      generalize ps.uses[k] = u at *
      obtain ⟨ui, t⟩ := u
      simp only at x0 x1 x2 x3 x4 x5
      have hui : ui < ps.words.length := HUk.out.1
      obtain ⟨gw, wcap, hformw, _, hgwl⟩ := hpa.wd.form (by show 0 < ws.length; omega)
      have c0 := hpa.c0; have c1 := hpa.c1
      obtain ⟨D, hown, hlok⟩ := hpa.mp
      have hnl : t.text.size ≤ maxLen := by have := HUk.out.2; unfold maxLen; simp only at this; omega
      have hkey : keyOf Tryd.prog 9 (.string t.text) = some (.string t.text.data.toList) := keyOf_string_mk Tryd.underlying9 hnl
      obtain ⟨hh1, hh2⟩ := hlok t.text.data.toList
      have hlook := fun o => ((hown.alloc o).drew).look_ok lawS Tryd.underlying173 (zeroI _) (plainElem_int (H := Unit) Tryd.underlying3 (a := 0) (by decide)) hkey
      have hNr : N < wr.heap.size := hpa.nlt
      clear hpa hpf hf hown hlok hkey
      cases hlk : ps.labels.lookup t.text.data.toList with
      | none =>
        rw [hlk] at hh1
        have HR : Hid (fillGo ps.labels ps.uses ps.words = .inr (t.fl, t.fc, 7)) := by unfold Hid; rw [← HG.out, HDr.out, fillGo, hlk]
        have hlook2 : ∀ o, ∃ x, (Instr.lookup 173 (.map (some b)) (.string t.text) true).run Tryd.prog ((wr.alloc o).drew) = .ok (.tuple #[x, .bool false]) ((wr.alloc o).drew) := fun o => by
          obtain ⟨x, ps', hrun, hx⟩ := hlook o
          rw [hh1] at hrun
          exact ⟨x, hrun⟩
        obtain ⟨x, hrun⟩ := hlook2 (.cells #[.int .i64 (ui : Int), .string t.text, .int .i64 t.fl, .int .i64 t.fc, .int .i64 t.bl, .int .i64 t.bc] 213)
        obtain ⟨f0, f1, f2, ff⟩ := HF.out
        clear hlook hlook2 hh1 hh2 hlk HG HDr
        go_wp2_with fail
        refine still_all (by kernel_rfl) (by kernel_rfl) ?_
        repeat still_step
        refine wpStill_nil ?_
        go_wp2_with fail
        refine bodyPost_ret (v := .agg #[.int .i64 t.fl, .int .i64 t.fc, .int .i64 7]) (by simp [results, Tryd.results125, go_sem, f0, f1, f2, hz]) rfl ?_
        unfold FlPost
        have y := pfr_set3 HPf.out hBw (Nat.le_refl _) (.int .i64 t.fl) (.int .i64 t.fc) (.int .i64 7)
        have hy : B ≤ (((wr.setCell ⟨w.heap.size, 0, none⟩ (.int .i64 t.fl)).setCell ⟨w.heap.size, 1, none⟩ (.int .i64 t.fc)).setCell ⟨w.heap.size, 2, none⟩ (.int .i64 7)).heap.size := Nat.le_trans hBw y.below.size
        exact ⟨y.above hy ((Below.refl _ _).alloc (Nat.le_refl _) _).drew, (((((HPa.out.setOut hni 0 _).setOut hni 1 _).setOut hni 2 _).alloc _).drew).c0, .inr ⟨_, _, _, HR.out, by decide, rfl⟩⟩
      | some pv =>
        rw [hlk] at hh1
        have hat := hh2 pv hlk
        have HPv := hide (HLb.out _ _ hlk)
        have hlook2 : ∀ o, (Instr.lookup 173 (.map (some b)) (.string t.text) true).run Tryd.prog ((wr.alloc o).drew) = .ok (.tuple #[.int .i64 pv, .bool true]) ((wr.alloc o).drew) := fun o => by
          obtain ⟨x, ps', hrun, hx⟩ := hlook o
          rw [hh1] at hrun
          obtain ⟨a, rfl, ha, _⟩ := plainElem_int_inv Tryd.underlying3 hx
          rw [hat] at ha
          cases ha
          exact hrun
        have hrun := hlook2 (.cells #[.int .i64 (ui : Int), .string t.text, .int .i64 t.fl, .int .i64 t.fc, .int .i64 t.bl, .int .i64 t.bc] 213)
        have HG' : Hid (fillGo ps.labels (ps.uses.drop (k + 1)) (ws.set ui (ws.getD ui 0 + pv)) = fillGo ps.labels ps.uses ps.words) := by
          have := HG.out
          rw [HDr.out, fillGo, hlk] at this
          exact this
        simp only [Value.slice.injEq] at hformw
        obtain ⟨hwa, -, hwc⟩ := hformw
        subst hwa
        have hwd : wr.ownsRow B 3 1 (.slice (some ⟨gw, 0, none⟩) ps.words.length wc) ps.words.length (intCs ws) := by
          have := HPa.out.wd
          simp only [hwsl] at this
          exact this
        have hcell : wr.cell? ⟨gw, ui, none⟩ = some (.int .i64 (ws.getD ui 0)) := by
          rw [hwd.cellAt ui (by omega)]
          unfold intCs
          rw [List.getElem?_map, List.getElem?_eq_getElem (by omega : ui < ws.length), List.getD_eq_getElem?_getD, List.getElem?_eq_getElem (by omega : ui < ws.length)]
          rfl
        have hcf := hwd.frozenAt ui
        have hxb : 0 ≤ ws.getD ui 0 ∧ ws.getD ui 0 ≤ 4294967296 + 128 * (k : Int) := by
          rw [List.getD_eq_getElem?_getD, List.getElem?_eq_getElem (by omega : ui < ws.length)]
          exact HWs.out _ (by simp)
        have hsum : IntKind.i64.wrap (ws.getD ui 0 + pv) = ws.getD ui 0 + pv := by
          have := HPv.out
          exact IntWalk.i64_in _ ⟨by omega, by omega⟩
        have hui' : (ui : Int) < (ps.words.length : Int) := by omega
        generalize ws.getD ui 0 = xv at *
        have HXb := hide hxb
        have HWd := hide hwd
        clear hlook hlook2 hh1 hh2 hlk HG HDr hat hwc hxb hwd
        go_wp2_with fail
        refine still_all (by kernel_rfl) (by kernel_rfl) ?_
        repeat still_step
        refine wpStill_nil ?_
        have HW : Hid (Below wr.heap.size wr ((wr.alloc (.cells #[.int .i64 (ui : Int), .string t.text, .int .i64 t.fl, .int .i64 t.fc, .int .i64 t.bl, .int .i64 t.bc] 213)).drew) ∧ ((wr.alloc (.cells #[.int .i64 (ui : Int), .string t.text, .int .i64 t.fl, .int .i64 t.fc, .int .i64 t.bl, .int .i64 t.bc] 213)).drew).cell? ⟨wr.heap.size, 0, none⟩ = some (.int .i64 (ui : Int))) :=
          ⟨((Below.refl _ _).alloc (Nat.le_refl _) _).drew, cell_new wr _ _ 0 _ rfl⟩
        generalize (wr.alloc (.cells #[.int .i64 (ui : Int), .string t.text, .int .i64 t.fl, .int .i64 t.fc, .int .i64 t.bl, .int .i64 t.bc] 213)).drew = W at *
        obtain ⟨hbW, hW0⟩ := HW.out
        have HBW := hide hbW
        have d0 := (below_cell' hbW N 0 hNr).trans c0
        have dc := (below_cell' hbW gw ui hgwl).trans hcell
        have df : W.frozen? ⟨gw, ui, none⟩ = false := (hbW.frozen (p := ⟨gw, ui, none⟩) hgwl).trans hcf
        clear hbW hrun x0 x1 x2 x3 x4 x5 c0 c1 hcell hcf
        go_wp2_with fail
        refine still_tail 11 (by kernel_rfl) (by kernel_rfl) ?_
        simp only [List.take_succ_cons, List.take_zero, List.drop_succ_cons, List.drop_zero]
        repeat still_step
        refine wpStill_nil ?_
        go_wp2_with fail
        have HPW := HPa.out.above HBW.out
        have HFW : F0 W w.heap.size := HF.out.block (HBW.out.block _ hz)
        obtain ⟨z1, z2⟩ := HPW.setW hwsl.symm ui (xv + pv)
        have hni' : w.heap.size ≠ gw := fun e => hni (.inr (.inr (.inl (by rw [e]; rfl))))
        have hBr : B ≤ wr.heap.size := Nat.le_trans hBw (Nat.le_of_lt hz)
        refine ⟨⟨k + 1, ws.set ui (xv + pv), by omega, by go_num, by simpa using hwsl, z1.drew, ?_, (HFW.block (heap_set_other W _ hni')).block rfl, fun x hx => ?_, HG'⟩, by simp [intOf]; omega⟩
        · have hBW : B ≤ (W.setCell ⟨gw, ui, none⟩ (.int .i64 (xv + pv))).heap.size := Nat.le_trans hBr (Nat.le_trans HBW.out.size z2.below.size)
          exact ((HPf.out.above hBr HBW.out).trans z2).above hBW (Below.refl _ _).drew
        · have q1 := HPv.out
          have q2 := HXb.out
          rcases List.mem_or_eq_of_mem_set hx with h1 | h1
          · have := HWs.out x h1
            omega
          · rw [h1]
            omega
    · have hkn : k = ps.uses.length := by omega
      subst hkn
      obtain ⟨f0, f1, f2, ff⟩ := HF.out
      have HR : Hid (fillGo ps.labels ps.uses ps.words = .inl ws) := by unfold Hid; rw [← HG.out, List.drop_of_length_le (Nat.le_refl _)]; rfl
      clear hpa hpf hf HG
      go_wp2_with fail
      refine bodyPost_ret (v := .agg #[.int .i64 0, .int .i64 0, .int .i64 0]) (by simp [results, Tryd.results125, go_sem, f0, f1, f2]) rfl ?_
      unfold FlPost
      exact ⟨pfr_set3 HPf.out hBw (Nat.le_refl _) _ _ _, (((HPa.out.setOut hni 0 _).setOut hni 1 _).setOut hni 2 _).c0, .inl ⟨ws, HR.out, hwsl, ((HPa.out.setOut hni 0 _).setOut hni 1 _).setOut hni 2 _, rfl⟩⟩
end Go.Proofs.YtmmflekajbeamaaDoor

namespace Go.Proofs.YtmmflekajbeamaaDoor
open Go.RowKit Go.Maps Go.WideMaps

/-- The program's answer to a text: its words, or a fault's place and number. -/
def asmP (s : ByteArray) : List Int ⊕ (Int × Int × Int) :=
  if 2000 < s.size then .inr (0, 0, 2) else match cutGo s s.size 0 cs0 with
    | .inr (l, c) => .inr (l, c, 3)
    | .inl st => match rdAll ps0 (endLineS s s.size st).lines with
      | .inr f => .inr f
      | .inl ps => fillGo ps.labels ps.uses ps.words

structure PInv (ps : PS) (k : Nat) : Prop where
  wl : ps.words.length ≤ 128
  ul : ps.uses.length ≤ 3 * ps.words.length
  ll : ps.labels.length ≤ k
  us : ∀ u ∈ ps.uses, u.1 < ps.words.length ∧ u.2.text.size ≤ 2000
  wb : ∀ x ∈ ps.words, 0 ≤ x ∧ x ≤ 4294967296
  lb : ∀ p ∈ ps.labels, 0 ≤ p.2 ∧ p.2 ≤ 128
theorem PInv.zero : PInv ps0 0 := ⟨by decide, by decide, by decide, fun u hu => by simp [ps0] at hu, fun u hu => by simp [ps0] at hu, fun u hu => by simp [ps0] at hu⟩
theorem lookup_mem {l : List (List UInt8 × Int)} {k : List UInt8} {x : Int} (h : l.lookup k = some x) : (k, x) ∈ l := by
  induction l with
  | nil => cases h
  | cons p l ih =>
    obtain ⟨k', x'⟩ := p
    unfold List.lookup at h
    cases hq : k == k' with
    | true =>
      rw [hq] at h
      cases h
      rw [beq_iff_eq.1 hq]
      exact List.mem_cons_self
    | false =>
      rw [hq] at h
      exact List.mem_cons_of_mem _ (ih h)
theorem layGo_ok (n nw : Nat) : ∀ (ts : List Tok) (i : Nat) (s : LS), LOK n s → (∀ j t, ts[j]? = some t → fitK ((rowPt n).getD (i + j) 0) t.text = true) → LOK n (layGo n nw i ts s) := by
  intro ts
  induction ts with
  | nil => intro i s h _; exact h
  | cons t ts ih =>
    intro i s h hf
    refine ih (i + 1) _ (h.step (hf 0 t rfl)) (fun j u hj => ?_)
    rw [show i + 1 + j = i + (j + 1) by omega]
    exact hf (j + 1) u hj
theorem layP_u (n nw i : Nat) (t : Tok) (s : LS) : (layP n nw i t s).u = s.u ∨ (layP n nw i t s).u = s.u ++ [(nw, t)] := by
  unfold layP
  split
  · exact .inl rfl
  · split
    · exact .inl rfl
    · exact .inr rfl
theorem layGo_u (n nw : Nat) : ∀ (ts : List Tok) (i : Nat) (s : LS), (layGo n nw i ts s).u.length ≤ s.u.length + ts.length ∧ ∀ u ∈ (layGo n nw i ts s).u, u ∈ s.u ∨ (u.1 = nw ∧ u.2 ∈ ts) := by
  intro ts
  induction ts with
  | nil => intro i s; exact ⟨Nat.le_refl _, fun u hu => .inl hu⟩
  | cons t ts ih =>
    intro i s
    obtain ⟨h1, h2⟩ := ih (i + 1) (layP n nw i t s)
    rw [layGo]
    rcases layP_u n nw i t s with e | e
    · rw [e] at h1 h2
      refine ⟨by simp; omega, fun u hu => (h2 u hu).imp id (fun h => ⟨h.1, List.mem_cons_of_mem _ h.2⟩)⟩
    · rw [e] at h1 h2
      refine ⟨by simp at h1 ⊢; omega, fun u hu => ?_⟩
      rcases h2 u hu with h | h
      · rcases List.mem_append.1 h with h | h
        · exact .inl h
        · rw [List.mem_singleton.1 h]
          exact .inr ⟨rfl, List.mem_cons_self⟩
      · exact .inr ⟨h.1, List.mem_cons_of_mem _ h.2⟩
theorem wordOf_bd (n : Nat) (hn : n < 12) (s : LS) (h : LOK n s) : 0 ≤ wordOf n s ∧ wordOf n s ≤ 4294967296 := by
  obtain ⟨h1, h2, h3, h4⟩ := h
  have a0 := h1 0; have a1 := h1 1; have a2 := h1 2
  unfold wordOf
  by_cases h11 : n = 11
  · subst h11
    rw [if_pos (show rowOp 11 = -1 from rfl)]
    omega
  · have ho : rowOp n = n := rowOp_lt n (by omega)
    have hk := h3 h11
    rw [if_neg (by omega), ho]
    have : (n : Int) ≤ 10 := by omega
    omega
theorem rdIns_inv {ps ps' : PS} {k : Nat} (h : PInv ps k) (hd : Tok) (parts : List Tok) (hts : ∀ t ∈ parts, t.text.size ≤ 2000) (hr : rdIns ps hd parts = .inl ps') : PInv ps' k := by
  unfold rdIns at hr
  split at hr
  · cases hr
  · rename_i n hix
    split at hr
    · cases hr
    · rename_i hck
      split at hr
      · cases hr
      · rename_i hm
        cases hr
        obtain ⟨hn, _⟩ := rowIx_some hix
        obtain ⟨k1, k2⟩ := chk_none (rowPt n) parts 0 hd (Nat.zero_le _) hck
        simp only [Nat.zero_add] at k1
        have h3 := rowPt_len n
        obtain ⟨u1, u2⟩ := layGo_u n ps.words.length parts 0 (ls0 ps.uses)
        have hok := layGo_ok n ps.words.length parts 0 (ls0 ps.uses) (LOK.zero n _) k2
        have hl := h.wl
        have hu := h.ul
        have e1 : (ls0 ps.uses).u = ps.uses := rfl
        rw [e1] at u1 u2
        refine ⟨by simp [layS]; omega, by simp [layS]; omega, h.ll, fun u hu' => ?_, fun x hx => ?_, h.lb⟩
        · have hlen : (layS n parts ps).words.length = ps.words.length + 1 := by simp [layS]
          rw [hlen]
          rcases u2 u hu' with h4 | ⟨h4, h5⟩
          · have := h.us u h4
            omega
          · exact ⟨by omega, hts _ h5⟩
        · rcases List.mem_append.1 hx with h4 | h4
          · exact h.wb x h4
          · rw [List.mem_singleton.1 h4]
            exact wordOf_bd n hn _ hok
theorem rdLine_inv {ps ps' : PS} {k : Nat} (h : PInv ps k) (line : List Tok) (hts : ∀ t ∈ line, t.text.size ≤ 2000) (hr : rdLine ps line = .inl ps') : PInv ps' (k + 1) := by
  have up : PInv ps (k + 1) := ⟨h.wl, h.ul, Nat.le_succ_of_le h.ll, h.us, h.wb, h.lb⟩
  have rest : ∀ (q : PS) (l : List Tok), PInv q (k + 1) → (∀ t ∈ l, t.text.size ≤ 2000) → rdRest q l = .inl ps' → PInv ps' (k + 1) := by
    intro q l hq hl hr
    cases l with
    | nil => cases hr; exact hq
    | cons t ts => exact rdIns_inv hq t ts (fun u hu => hl u (List.mem_cons_of_mem _ hu)) hr
  cases line with
  | nil => cases hr; exact up
  | cons t ts =>
    rw [rdLine] at hr
    split at hr
    · split at hr
      · cases hr
      · refine rest { ps with labels := ps.labels ++ [((labN t).data.toList, (ps.words.length : Int))] } ts ⟨h.wl, h.ul, by show (ps.labels ++ [_]).length ≤ _; rw [List.length_append, List.length_singleton]; exact Nat.succ_le_succ h.ll, h.us, h.wb, fun p hp => ?_⟩ (fun u hu => hts u (List.mem_cons_of_mem _ hu)) hr
        rcases List.mem_append.1 hp with hp | hp
        · exact h.lb p hp
        · rw [List.mem_singleton.1 hp]
          have := h.wl
          simp only
          omega
    · exact rest ps (t :: ts) up hts hr

/-- A row of tokens is a slice of tokens. -/
theorem toks_sl {w : World} {B : Nat} {v : Value} {l : List Tok} (h : ToksAt w B v l) : SlAt w v l ∧ ∀ a m c, v = .slice (some a) m c → B ≤ a.block ∧ a.block < w.heap.size := by
  unfold ToksAt at h
  have hlt := row_lt h
  rcases h.2 with ⟨rfl, h0⟩ | ⟨g, cap, cur, rfl, hb, hg, hnc, _⟩
  · refine ⟨⟨none, 0, by rw [h0], by omega, fun hne => absurd (List.length_eq_zero_iff.1 h0) hne⟩, fun a m c e => by cases e⟩
  · refine ⟨⟨some ⟨g, 0, none⟩, cap, rfl, hnc, fun _ => ⟨g, 0, rfl, fun i t hi => ?_⟩⟩, fun a m c e => by cases e; exact hlt g rfl⟩
    have hil : i < l.length := (List.getElem?_eq_some_iff.1 hi).1
    have key : ∀ (l : List Tok) (k : Nat), l[k]? = some t → ∀ j, j < 5 → (tokCs l)[k * 5 + j]? = (tokC t)[j]? := by
      intro l
      induction l with
      | nil => intro k hk; simp at hk
      | cons a l ih =>
        intro k hk j hj
        have hlen : (tokC a).length = 5 := rfl
        show (tokC a ++ tokCs l)[k * 5 + j]? = _
        match k, hk with
        | 0, hk =>
          simp at hk
          subst hk
          rw [List.getElem?_append_left (by omega)]
          congr 1
          omega
        | k + 1, hk =>
          simp at hk
          rw [List.getElem?_append_right (by omega), hlen, show (k + 1) * 5 + j - 5 = k * 5 + j by omega]
          exact ih k hk j hj
    have kk := key l i hi
    have c : ∀ j, j < 5 → w.cell? ⟨g, 0 + i * 5 + j, none⟩ = (tokC t)[j]? := fun j hj => by
      rw [Nat.zero_add, h.cellAt _ (by omega)]
      exact kk j hj
    exact ⟨c 0 (by decide), c 1 (by decide), c 2 (by decide), c 3 (by decide), c 4 (by decide)⟩
theorem toks_keep {w w' : World} {B : Nat} {v : Value} {l : List Tok} (h : ToksAt w B v l) (hb : Below w.heap.size w w') : ToksAt w' B v l := ownsRow_keep h (fun g hg => hb.block g (row_lt h g hg).2)
end Go.Proofs.YtmmflekajbeamaaDoor
