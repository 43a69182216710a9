/-
  Sound, as plain mathematics: a block's own plan comes to the same as the block; a put on a slot that is no register, behind all others, changes no register.
  Sound, as plain mathematics: what plain words do to a state, step by step, is what their puts do to the registers.
  Translates: the text of a plan (plans.Text); puts with what is known (withKnown).
  Translates: the words of a block at a place of the memory (block.At), and their text (Text).
-/
import Derived.Test.YtmmflekajbeamaaDoorM18
import Derived.Test.YtmmflekajbeamaaDoorM16
import Derived.Test.YtmmflekajbeamaaDoorM17
namespace Go.Proofs.YtmmflekajbeamaaDoor

theorem getD_lt {α : Type} {l : List α} {i : Nat} (z y : α) (h : i < l.length) : l.getD i z = l.getD i y := by
  rw [List.getD_eq_getElem?_getD, List.getD_eq_getElem?_getD, List.getElem?_eq_getElem h]; rfl
/-- What the last puts on registers tell of their texts. -/
def KnR (last : List PutN) (l : List (List UInt8)) : Prop := ∀ r, r < 8 → (last.getD r zPut).kind = 1 → (last.getD r zPut).k < 4294967296 ∧ l.getD r [] = sCon (last.getD r zPut).k
theorem KnR.zero : KnR kn0.1 begS := fun r hr h => by
  have h2 : kn0.1.getD r zPut = zPut := by
    unfold kn0
    rw [List.getD_eq_getElem?_getD, List.getElem?_replicate, if_pos hr]; rfl
  rw [h2] at h
  cases h
theorem knP_vS {last : List PutN} {l : List (List UInt8)} (h : KnR last l) {p : PutN} (hp : okB p) : vS l (knP last p) = vS l p := by
  obtain ⟨k1, k6, d8, a8, b8, kk, ok⟩ := hp
  unfold knP
  split
  · rename_i hc
    obtain ⟨ha, hx, hy⟩ := hc
    unfold arN at ha
    have ha' := of_decide_eq_true ha
    obtain ⟨x1, x2⟩ := h p.a a8 hx
    obtain ⟨y1, y2⟩ := h p.b b8 hy
    unfold vS
    dsimp only
    rw [if_pos rfl, if_neg (by omega), if_neg (by omega), if_neg (by omega), x2, y2]
    unfold jnS
    rw [if_pos ⟨isCon_con _, isCon_con _⟩, valX_con _ x1, valX_con _ y1]
  · rfl
theorem KnR.step {last : List PutN} {l : List (List UInt8)} (h : KnR last l) (hl : last.length = 8) (ht : l.length = 16) (hb : ∀ q ∈ last, q.k < 4294967296) {p : PutN} (hp : okB p) : KnR (last.set p.d (knP last p)) (stS l p) := by
  have d8 := hp.2.2.1
  intro r hr
  unfold stS
  rw [getD_set _ _ _ _ _ (by rw [hl]; exact d8), getD_set _ _ _ _ _ (by rw [ht]; omega)]
  by_cases hrd : r = p.d
  · rw [if_pos hrd, if_pos hrd]
    intro hk
    refine ⟨(hp.kn hb).2.2.2.2.2.1, ?_⟩
    rw [← knP_vS h hp]
    unfold vS
    rw [if_pos hk]
  · rw [if_neg hrd, if_neg hrd]
    exact h r hr
theorem kn_come {ps : List PutN} (h : ∀ p ∈ ps, okB p) : ∀ k, k ≤ ps.length → KnR ((ps.take k).foldl knS kn0).1 ((ps.take k).foldl stS begS) ∧ ((ps.take k).foldl knS kn0).2.foldl stS begS = (ps.take k).foldl stS begS := by
  intro k
  induction k with
  | zero => intro _; exact ⟨KnR.zero, rfl⟩
  | succ k ih =>
    intro hk
    obtain ⟨h1, h2⟩ := ih (by omega)
    have hx : ps[k]? = some ps[k] := List.getElem?_eq_getElem (by omega)
    have hp := h _ (List.getElem_mem (by omega : k < ps.length))
    have hO := KnOK.fold h k (by omega)
    have hlen : ((ps.take k).foldl stS begS).length = 16 := by rw [foldS_len]; simp [begS]
    rw [foldl_take_succ _ _ _ _ _ hx, foldl_take_succ _ _ _ _ _ hx]
    refine ⟨h1.step hO.l8 hlen hO.bd hp, ?_⟩
    show ((List.foldl knS kn0 (ps.take k)).2 ++ [knP (List.foldl knS kn0 (ps.take k)).1 ps[k]]).foldl stS begS = _
    rw [List.foldl_append, h2]
    have e : ∀ l, vS l (knP (List.foldl knS kn0 (ps.take k)).1 ps[k]) = vS l ps[k] → stS l (knP (List.foldl knS kn0 (ps.take k)).1 ps[k]) = stS l ps[k] := fun l e => by
      unfold stS
      rw [e, knP_d]
    exact e _ (knP_vS h1 hp)
theorem wKn_come {ps : List PutN} (h : ∀ p ∈ ps, okB p) : comeS (wKn ps) = comeS ps := by
  have := (kn_come h ps.length (Nat.le_refl _)).2
  rw [List.take_length] at this
  exact this
theorem idle_come : ∀ (l : List PutN) (x y : List (List UInt8)), (∀ p ∈ l, okB p) → x.length = 16 → y.length = 16 → (∀ q, q < 8 → nd l q = true → x.getD q [] = y.getD q []) → ∀ q, q < 8 → (l.foldl stS x).getD q [] = ((idle l).foldl stS y).getD q [] := by
  intro l
  induction l with
  | nil => intro x y _ _ _ h q hq; exact h q hq rfl
  | cons p ps ih =>
    intro x y hp hx hy h
    have hpp := hp p List.mem_cons_self
    obtain ⟨k1, k6, d8, a8, b8, kk, ok⟩ := hpp
    have hps : ∀ q ∈ ps, okB q := fun q hq => hp q (List.mem_cons_of_mem _ hq)
    have hxl : (stS x p).length = 16 := by rw [stS_len, hx]
    by_cases hn : nd ps p.d = true
    · have hrd : ∀ r, r < 8 → rdB p r = true → x.getD r [] = y.getD r [] := fun r hr hb => h r hr (by rw [nd, if_pos hn, if_pos hb])
      have hv : vS x p = vS y p := by
        have hc : p.kind = 1 ∨ p.kind = 6 ∨ (2 ≤ p.kind ∧ p.kind ≤ 5) := by omega
        unfold vS
        rcases hc with h1 | h6 | hm
        · rw [if_pos h1, if_pos h1]
        · rw [hrd p.a a8 (by unfold rdB; rw [if_neg (by omega), if_pos (Or.inl h6)]; exact decide_eq_true rfl), if_neg (by omega), if_pos h6, if_neg (by omega), if_pos h6]
        · have e : ∀ r, rdB p r = decide (p.a = r ∨ p.b = r) := fun r => by unfold rdB; rw [if_neg (by omega), if_neg (by omega)]
          rw [hrd p.a a8 (by rw [e]; exact decide_eq_true (Or.inl rfl)), hrd p.b b8 (by rw [e]; exact decide_eq_true (Or.inr rfl))]
      have := ih (stS x p) (stS y p) hps hxl (by rw [stS_len, hy]) (fun q hq hnq => by
        unfold stS
        rw [getD_set _ _ _ _ _ (by omega), getD_set _ _ _ _ _ (by omega), hv]
        by_cases hqd : q = p.d
        · rw [if_pos hqd, if_pos hqd]
        · rw [if_neg hqd, if_neg hqd]
          refine h q hq ?_
          rw [nd, if_pos hn]
          split
          · rfl
          · rw [if_neg (fun e => hqd e.symm)]; exact hnq)
      rw [idle, if_pos hn]
      exact this
    · have := ih (stS x p) y hps hxl hy (fun q hq hnq => by
        have hqd : q ≠ p.d := fun e => hn (e ▸ hnq)
        unfold stS
        rw [getD_set _ _ _ _ _ (by omega), if_neg hqd]
        refine h q hq ?_
        rw [nd, if_neg hn]
        exact hnq)
      rw [idle, if_neg hn]
      exact this
/-- A block's own plan comes to the same as the block. -/
theorem own_come {s : ByteArray} (h : blkOK s) : (comeS (blkPuts s)).take 8 = (comeS (ownP s)).take 8 := by
  rw [take_eq_iff [] (by rw [comeS_len]; decide) (by rw [comeS_len]; decide)]
  intro q hq
  rw [← wKn_come (blkPuts_okB h)]
  exact idle_come (wKn (blkPuts s)) begS begS (wKn_ok (blkPuts_okB h)).1 (by simp [begS]) (by simp [begS]) (fun _ _ _ => rfl) q hq
/-- A put more, on a slot that is no register, behind all others. -/
theorem come_more (ps : List PutN) (p : PutN) (hd : 8 ≤ p.d) : (comeS (ps ++ [p])).take 8 = (comeS ps).take 8 := by
  rw [take_eq_iff [] (by rw [comeS_len]; decide) (by rw [comeS_len]; decide)]
  intro q hq
  have e : comeS (ps ++ [p]) = stS (comeS ps) p := by unfold comeS; rw [List.foldl_append]; rfl
  rw [e]
  unfold stS
  by_cases hlt : p.d < (comeS ps).length
  · rw [getD_set _ _ _ _ _ hlt, if_neg (by omega)]
  · rw [List.set_eq_of_length_le (by omega)]
end Go.Proofs.YtmmflekajbeamaaDoor

namespace Go.Proofs.YtmmflekajbeamaaDoor

/-- A state out of its parts. -/
def mkZ (regs mem : List Int) (pc st : Int) : List Int := regs ++ (mem ++ [pc, st])
theorem getD_appR {α : Type} {l x : List α} {i : Nat} (z : α) (h : l.length ≤ i) : (l ++ x).getD i z = x.getD (i - l.length) z := by
  rw [List.getD_eq_getElem?_getD, List.getD_eq_getElem?_getD, List.getElem?_append_right h]
section
variable {regs mem : List Int} {pc st : Int}
theorem mkZ_len (hr : regs.length = 8) (hm : mem.length = 128) : (mkZ regs mem pc st).length = 138 := by simp [mkZ, hr, hm]
theorem mkZ_pc (hr : regs.length = 8) (hm : mem.length = 128) : gz (mkZ regs mem pc st) 136 = pc := by
  unfold gz mkZ
  rw [getD_appR _ (by omega), hr, getD_appR _ (by omega), hm]; rfl
theorem mkZ_st (hr : regs.length = 8) (hm : mem.length = 128) : gz (mkZ regs mem pc st) 137 = st := by
  unfold gz mkZ
  rw [getD_appR _ (by omega), hr, getD_appR _ (by omega), hm]; rfl
theorem mkZ_set_pc (hr : regs.length = 8) (hm : mem.length = 128) (v : Int) : (mkZ regs mem pc st).set 136 v = mkZ regs mem v st := by
  unfold mkZ
  rw [List.set_append_right _ _ (by omega), hr, List.set_append_right _ _ (by omega), hm]; rfl
theorem mkZ_set_st (hr : regs.length = 8) (hm : mem.length = 128) (v : Int) : (mkZ regs mem pc st).set 137 v = mkZ regs mem pc v := by
  unfold mkZ
  rw [List.set_append_right _ _ (by omega), hr, List.set_append_right _ _ (by omega), hm]; rfl
end
theorem mkZ_reg {regs mem : List Int} {pc st : Int} (hr : regs.length = 8) {i : Nat} (hi : i < 8) : gz (mkZ regs mem pc st) i = regs.getD i 0 := by
  unfold gz mkZ
  rw [getD_app _ _ (by omega)]
theorem mkZ_mem {regs mem : List Int} {pc st : Int} (hr : regs.length = 8) (hm : mem.length = 128) {i : Nat} (hi : i < 128) : gz (mkZ regs mem pc st) (8 + i) = mem.getD i 0 := by
  unfold gz mkZ
  rw [getD_appR _ (by omega), hr, Nat.add_sub_cancel_left, getD_app _ _ (by omega)]
theorem mkZ_set_reg {regs mem : List Int} {pc st : Int} (hr : regs.length = 8) {i : Nat} (hi : i < 8) (v : Int) : (mkZ regs mem pc st).set i v = mkZ (regs.set i v) mem pc st := by
  unfold mkZ
  rw [List.set_append_left _ _ (by omega)]
theorem z_mk {z : List Int} (h : z.length = 138) : z = mkZ (z.take 8) ((z.drop 8).take 128) (gz z 136) (gz z 137) := by
  unfold mkZ
  have e1 : z = z.take 8 ++ z.drop 8 := (List.take_append_drop 8 z).symm
  have e2 : z.drop 8 = (z.drop 8).take 128 ++ (z.drop 8).drop 128 := (List.take_append_drop 128 _).symm
  have e3 : (z.drop 8).drop 128 = [gz z 136, gz z 137] := by
    rw [List.drop_drop, List.drop_eq_getElem_cons (by omega), List.drop_eq_getElem_cons (by omega), List.drop_of_length_le (by omega)]
    unfold gz
    rw [List.getD_eq_getElem?_getD, List.getD_eq_getElem?_getD, List.getElem?_eq_getElem (by omega), List.getElem?_eq_getElem (by omega)]
    rfl
  rw [← e3, ← e2, ← e1]
theorem mkZ_stB {regs mem : List Int} {pc st : Int} (hr : WL 8 regs) (hm : WL 128 mem) (p0 : 0 ≤ pc) (p1 : pc < 128) (s0 : 0 ≤ st) (s1 : st ≤ 2) : stB (mkZ regs mem pc st) = true := by
  unfold stB regsB memB pcB
  rw [mkZ_pc hr.1 hm.1, mkZ_st hr.1 hm.1]
  simp only [Bool.and_eq_true, List.all_eq_true, List.mem_range, decide_eq_true_eq]
  refine ⟨⟨fun i hi => ?_, fun i hi => ?_⟩, p0, p1, s0, s1⟩
  · rw [mkZ_reg hr.1 hi]; exact (isW_iff _).2 (hr.at hi)
  · rw [mkZ_mem hr.1 hm.1 hi]; exact (isW_iff _).2 (hm.at hi)
theorem stB_parts {z : List Int} (h : stB z = true) (hl : z.length = 138) : WL 8 (z.take 8) ∧ WL 128 ((z.drop 8).take 128) := by
  refine ⟨⟨by simp [hl], fun x hx => ?_⟩, ⟨by simp [hl], fun x hx => ?_⟩⟩
  · obtain ⟨i, hi⟩ := List.getElem?_of_mem hx
    rw [List.getElem?_take] at hi
    split at hi
    · rename_i h8
      have := stB_reg h i (by omega)
      unfold gz at this
      rw [List.getD_eq_getElem?_getD, hi] at this
      exact this
    · cases hi
  · obtain ⟨i, hi⟩ := List.getElem?_of_mem hx
    rw [List.getElem?_take] at hi
    split at hi
    · rename_i h8
      rw [List.getElem?_drop] at hi
      have := stB_reg h (8 + i) (by omega)
      unfold gz at this
      rw [List.getD_eq_getElem?_getD, hi] at this
      exact this
    · cases hi
/-- A put on registers alone. -/
def rD (mem regs : List Int) (p : PutN) : List Int := regs.set p.d (vD regs mem p)
theorem vD_app {mem regs : List Int} (t : List Int) (hr : regs.length = 8) {p : PutN} (hp : okB p) : vD (regs ++ t) mem p = vD regs mem p := by
  obtain ⟨_, _, d8, a8, b8, _, _⟩ := hp
  unfold vD
  rw [getD_app _ _ (by omega), getD_app _ _ (by omega)]
theorem stD_app {mem regs : List Int} (t : List Int) (hr : regs.length = 8) {p : PutN} (hp : okB p) : stD mem (regs ++ t) p = rD mem regs p ++ t := by
  unfold stD rD
  rw [vD_app t hr hp, List.set_append_left _ _ (by rw [hr]; exact hp.2.2.1)]
theorem rD_len (mem regs : List Int) (p : PutN) : (rD mem regs p).length = regs.length := by simp [rD]
theorem doL_app {mem : List Int} (t : List Int) : ∀ (ps : List PutN) {regs : List Int}, regs.length = 8 → (∀ p ∈ ps, okB p) → doL mem ps (regs ++ t) = ps.foldl (rD mem) regs ++ t := by
  intro ps
  induction ps with
  | nil => intro regs _ _; rfl
  | cons p ps ih =>
    intro regs hr hp
    show doL mem ps (stD mem (regs ++ t) p) = _
    rw [stD_app t hr (hp p List.mem_cons_self), ih (by rw [rD_len, hr]) (fun q hq => hp q (List.mem_cons_of_mem _ hq))]
    rfl
theorem rDs_len {mem : List Int} (ps : List PutN) : ∀ regs : List Int, (ps.foldl (rD mem) regs).length = regs.length := by
  induction ps with
  | nil => intro regs; rfl
  | cons p ps ih => intro regs; rw [List.foldl_cons, ih, rD_len]
theorem doL_regs {mem regs : List Int} {ps : List PutN} (hr : regs.length = 8) (hp : ∀ p ∈ ps, okB p) : (doL mem ps (begD regs)).take 8 = ps.foldl (rD mem) regs := by
  unfold begD
  rw [doL_app _ ps hr hp, List.take_append_of_le_length (by rw [rDs_len, hr]; exact Nat.le_refl _), List.take_of_length_le (by rw [rDs_len, hr]; exact Nat.le_refl _)]
theorem rD_WL {mem regs : List Int} (hr : WL 8 regs) (hm : WL 128 mem) {p : PutN} (hp : okB p) : WL 8 (rD mem regs p) := by
  refine ⟨by rw [rD_len, hr.1], fun x hx => ?_⟩
  rcases List.mem_or_eq_of_mem_set hx with hx | rfl
  · exact hr.2 x hx
  · have := (WL.beg hr).vD hm hp.2.2.2.2.2.2 hp.2.2.2.2.2.1
    unfold begD at this
    rw [vD_app _ hr.1 hp] at this
    exact this
theorem putW_okB {v : Int} (h : plW v = true) : okB (putW v) := by
  obtain ⟨h1, h2, h3, h4, h5, h6, h7⟩ := putW_ok h
  exact ⟨h6, h7, h2, h3, h4, by omega, h1⟩
/-- A plain word's step. -/
theorem stp_plain {regs mem : List Int} {pc : Nat} (hr : WL 8 regs) (hm : WL 128 mem) (hp : pc < 128) (hpl : plW (mem.getD pc 0) = true) :
    stp (mkZ regs mem pc 0) = (mkZ (rD mem regs (putW (mem.getD pc 0))) mem (((pc : Int) + 1) % 128) 0, 0) := by
  have hs := mkZ_stB (st := 0) hr hm (by omega : (0 : Int) ≤ pc) (by omega) (Int.le_refl 0) (by decide)
  have hw : wordZ (mkZ regs mem pc 0) = mem.getD pc 0 := by
    unfold wordZ
    rw [mkZ_pc hr.1 hm.1, Int.toNat_natCast, mkZ_mem hr.1 hm.1 hp]
  obtain ⟨ha, hc⟩ := plB_cases hpl
  have hk := putW_okB hpl
  have hkn : knZ (mkZ regs mem pc 0) = true := by
    unfold knZ
    rw [hw]
    unfold plW at hpl
    rw [← kn_pl _ _ _ _ (by omega) (by omega) (by omega) (by omega) (by omega)]
    exact hpl
  unfold stp
  rw [if_neg (by rw [hs]; decide), if_neg (by rw [mkZ_st hr.1 hm.1]; simp), if_neg (by rw [hkn]; decide), hw]
  rw [Prod.mk.injEq]
  refine ⟨?_, rfl⟩
  generalize mem.getD pc 0 = v at *
  have b1 := fa_bd v; have b2 := fb_bd v; have b3 := fc_bd v; have b4 := fk_bd v
  have rl := hr.1
  unfold nxt
  rw [mkZ_pc hr.1 hm.1]
  rcases hc with h1 | ⟨h2, h5, hb, hcc⟩ | ⟨h6, hb⟩
  · rw [if_neg (by omega), if_pos h1, mkZ_set_reg rl (by omega), mkZ_set_pc (by simp [rl]) hm.1]
    have e : putW v = ⟨1, (fa v).toNat, 0, 0, (fk v).toNat⟩ := by unfold putW; rw [if_pos h1]
    rw [e]
    unfold rD vD
    dsimp only
    rw [if_pos rfl, show (((fk v).toNat : Nat) : Int) = fk v by omega]
  · rw [if_neg (by omega), if_neg (by omega), if_pos ⟨h2, h5⟩, mkZ_reg rl (by omega), mkZ_reg rl (by omega), mkZ_set_reg rl (by omega), mkZ_set_pc (by simp [rl]) hm.1]
    have e : putW v = ⟨(fop v).toNat, (fa v).toNat, (fb v).toNat, (fc v).toNat, 0⟩ := by unfold putW; rw [if_neg (by omega), if_neg (by omega)]
    rw [e]
    unfold rD vD
    dsimp only
    rw [if_neg (by omega), if_neg (by omega), if_neg (by omega), show (((fop v).toNat : Nat) : Int) = fop v by omega]
  · rw [if_neg (by omega), if_neg (by omega), if_neg (by omega), if_pos h6, mkZ_mem rl hm.1 (by omega), mkZ_reg (i := (fb v).toNat) rl (by omega), mkZ_set_reg rl (by omega), mkZ_set_pc (by simp [rl]) hm.1]
    have e : putW v = ⟨6, (fa v).toNat, (fb v).toNat, 0, (fk v).toNat⟩ := by unfold putW; rw [if_neg (by omega), if_pos h6]
    rw [e]
    unfold rD vD
    dsimp only
    rw [if_neg (by decide), if_pos rfl, show (((fk v).toNat : Nat) : Int) = fk v by omega]
end Go.Proofs.YtmmflekajbeamaaDoor

namespace Go.Proofs.YtmmflekajbeamaaDoor
open Go.RowKit

theorem planT_take {ps : List PutN} {k : Nat} {p : PutN} (h : ps[k]? = some p) : planT (ps.take (k + 1)) = planT (ps.take k) ++ putT p := by rw [take_snoc' h, planT_snoc]
theorem u8_of (n : Nat) (h : n < 256) : ((UInt8.ofNat n).toNat : Int) = (n : Int) := by
  rw [UInt8.toNat_ofNat']; omega
theorem cell_heap {w w' : World} {g : Nat} (i : Nat) (h : w'.heap[g]? = w.heap[g]?) : w'.cell? ⟨g, i, none⟩ = w.cell? ⟨g, i, none⟩ := by
  unfold World.cell?
  rw [h]
theorem cell_row {w : World} {g : Nat} {c : Array Value} {t : TypeId} (h : w.heap[g]? = some (.cells c t)) (i : Nat) : w.cell? ⟨g, i, none⟩ = c[i]? := by
  unfold World.cell?
  rw [h]; rfl
set_option maxRecDepth 100000 in
set_option maxHeartbeats 2000000 in
theorem planText_any (B : Nat) (pv : Value) (ps : List PutN) (w : World) (ho : w.ownsRow B 59 5 pv ps.length (putCs ps)) (hl : ps.length ≤ 8) (hw : ∀ p ∈ ps, okB p) :
    Calls Tryd.prog 99 #[pv] w fun e' w' => e' = .returned (.string (bya (planT ps))) ∧ Below w.heap.size w w' := by
  obtain ⟨inf, hinf, hz, hsz1, hby⟩ := infoU8
  have HInf := hide hinf; have HZ := hide hz; have HSz := hide hsz1; have HBy := hide hby
  clear hinf hz hsz1 hby
  obtain ⟨fa', fc', rfl⟩ := owns_len ho
  have HF := hide ho; have HW := hide hw
  have hl' : (ps.length : Int) ≤ 8 := by omega
  clear ho hw
  go_enter Tryd.func99, Tryd.ntmps99
  go_wp2_with fail
  go_loopw [3, 8] (fun v i wr => ∃ k : Nat, k ≤ ps.length ∧ i = .int .i64 k ∧ wr.ownsRow w.heap.size 5 1 v (planT (ps.take k)).length (u8C (planT (ps.take k))) ∧ Below w.heap.size w wr) (fun _ i _ => ps.length - (intOf i).toNat)
  case atStart => exact ⟨0, Nat.zero_le _, rfl, World.ownsRow_nil _ _ _ _, Below.refl _ _⟩
  case round =>
    obtain ⟨k, hk, rfl, hown, hbl⟩ := hrel
    obtain ⟨va, vc, hv⟩ := owns_len hown
    have HO := hide hown; have HBl := hide hbl
    have hwz := hbl.size
    have hTl : (planT (ps.take k)).length ≤ 64 := by rw [planT_len, List.length_take]; omega
    by_cases hlt : k < ps.length
    · have hlt' : (k : Int) < (ps.length : Int) := by omega
      obtain ⟨g, cap, hform, _, hgl⟩ := HF.out.form (by omega)
      cases hform
      have hx : ps[k]? = some ps[k] := List.getElem?_eq_getElem hlt
      have hok := HW.out ps[k] (List.getElem_mem _)
      obtain ⟨x0, x1, x2, x3, x4⟩ := put_cells (own_grow HF.out hbl) k ps[k] hx
      have HS := hide (planT_take hx)
      generalize ps[k] = p at *
      obtain ⟨p0, p1, p2, p3, p4⟩ := p
      obtain ⟨q1, q2, q3, q4, q5, q6, _⟩ := hok
      simp only at q1 q2 q3 q4 q5 q6 x0 x1 x2 x3 x4
      subst hv
      have q0' : (p0 : Int) < 256 := by omega
      have q1' : (p1 : Int) < 256 := by omega
      have q2' : (p2 : Int) < 256 := by omega
      have q3' : (p3 : Int) < 256 := by omega
      have HC4 : Hid (u8C (planT (ps.take k)) ++ [.int .u8 (p0 : Int), .int .u8 (p1 : Int), .int .u8 (p2 : Int), .int .u8 (p3 : Int)] = u8C (planT (ps.take k) ++ [UInt8.ofNat p0, UInt8.ofNat p1, UInt8.ofNat p2, UInt8.ofNat p3])) := by
        unfold Hid
        rw [u8C_app]
        simp only [u8C, List.map_cons, List.map_nil, u8_of p0 (by omega), u8_of p1 (by omega), u8_of p2 (by omega), u8_of p3 (by omega)]
      have HE : Hid (planT (ps.take (k + 1)) = (planT (ps.take k) ++ [UInt8.ofNat p0, UInt8.ofNat p1, UInt8.ofNat p2, UInt8.ofNat p3]) ++ numB 4 p4) := by
        unfold Hid
        rw [HS.out]
        simp [putT]
      have HL4 : Hid ((planT (ps.take k)).length + 4 = (planT (ps.take k) ++ [UInt8.ofNat p0, UInt8.ofNat p1, UInt8.ofNat p2, UInt8.ofNat p3]).length) := by unfold Hid; simp
      have HO' := hide (own_grow hown ((Below.refl _ _).alloc (Nat.le_refl _) (.cells #[.int .i64 (p0 : Int), .int .i64 (p1 : Int), .int .i64 (p2 : Int), .int .i64 (p3 : Int), .int .i64 (p4 : Int)] 59)))
      have HC : Hid (∀ w3, ((wr.alloc (.cells #[.int .i64 (p0 : Int), .int .i64 (p1 : Int), .int .i64 (p2 : Int), .int .i64 (p3 : Int), .int .i64 (p4 : Int)] 59)).alloc (.cells #[.int .u8 (p0 : Int), .int .u8 (p1 : Int), .int .u8 (p2 : Int), .int .u8 (p3 : Int)] 5)).grownBy w3 (Value.slice va (planT (ps.take k)).length vc).ownBlock → w3.cell? ⟨wr.heap.size, 4, none⟩ = some (.int .i64 (p4 : Int))) := fun w3 hg => by
        have hne : some wr.heap.size ≠ (Value.slice va (planT (ps.take k)).length vc).ownBlock := fun e => by have := (row_lt hown _ e.symm).2; omega
        rw [cell_heap 4 ((hg.block wr.heap.size (by rw [size_alloc1, size_alloc1]; omega) hne).trans (Below.heap_alloc _ _ _ (by rw [size_alloc1]; omega))), cell_row (_root_.Go.heap_alloc_new wr _)]
        rfl
      generalize planT (ps.take k) = T at *
      generalize T.length = n at *
      clear hown hbl HS hx
      go_wp2_with (at_builtin; refine wpList_append_lies _ rfl _ _ 76 rfl w.heap.size 5 inf _ 1 1 Tryd.underlying76 HInf.out HZ.out HSz.out HBy.out rfl (by decide) (.slice va n vc) n (u8C T) rfl (HO'.out.alloc _) ⟨wr.heap.size + 1, 0, none⟩ 4 4 [.int .u8 (p0 : Int), .int .u8 (p1 : Int), .int .u8 (p2 : Int), .int .u8 (p3 : Int)] rfl rfl (World.news_of_block (by rw [← size_alloc1]; exact _root_.Go.heap_alloc_new _ _)) (fun u hu => by simp at hu; rcases hu with rfl | rfl | rfl | rfl <;> rfl) (by decide) (by unfold maxLen; omega) (by omega) (by rw [size_alloc1, size_alloc1]; omega) (wr.heap.size + 1 + 1) (by rw [size_alloc1, size_alloc1]) ?_; intro g2' cap2 w3 hown2 hgr2 hat2 hlt2; have HO3 := hide hown2; have HGr := hide hgr2; have c4 := HC.out w3 hgr2; clear hown2 hgr2 hat2)
      have hz3 : wr.heap.size + 1 + 1 ≤ w3.heap.size := by have := HGr.out.size; rw [size_alloc1, size_alloc1] at this; exact this
      rw [HC4.out] at HO3
      rw [HL4.out] at HO3
      have HAp := hide (numAppend_any w.heap.size _ _ p4 4 w3 (by omega) HO3.out (by rw [← HL4.out]; omega) (by decide))
      rw [← HL4.out] at HAp
      have HB3 : Hid (Below w.heap.size w w3) := ((HBl.out.alloc hwz _).alloc (by rw [size_alloc1]; omega) _).grown HGr.out (by rw [size_alloc1, size_alloc1]; omega) (fun q hq => (row_lt HO'.out q hq).1)
      clear HO3 HGr
      refine (unhide HAp).mono ?_
      rintro e w4 ⟨v', rfl, b1, b2, b3⟩
      have HO4 := hide b1
      have HB4 : Hid (Below w.heap.size w w4) := HB3.out.trans b2
      clear b1 b2 b3
      go_wp2_with fail
      refine ⟨⟨k + 1, by omega, by go_num, ?_, HB4.out⟩, by simp [intOf]; omega⟩
      rw [HE.out]
      exact HO4.out
    · have hlt' : ¬ (k : Int) < (ps.length : Int) := by omega
      have hkn : k = ps.length := by omega
      subst hkn
      rw [List.take_length] at HO hv
      have kc := u8_str HO.out
      subst hv
      clear hown hbl
      go_wp2_with fail
      go_ret
      exact ⟨rfl, HBl.out⟩

def putZ (p : PutN) : List Int := [(p.kind : Int), (p.d : Int), (p.a : Int), (p.b : Int), (p.k : Int)]
/-- The last puts, as cells. -/
def lastZ (l : List PutN) : List Int := l.flatMap putZ
theorem lastZ_len (l : List PutN) : (lastZ l).length = l.length * 5 := by
  induction l with
  | nil => rfl
  | cons p l ih => simp [lastZ, putZ] at *; omega
theorem flat_atG {α β : Type} (f : α → List β) (m : Nat) (hf : ∀ a, (f a).length = m) : ∀ (l : List α) (k : Nat) (x : α), l[k]? = some x → ∀ j, j < m → (l.flatMap f)[k * m + j]? = (f x)[j]? := by
  intro l
  induction l with
  | nil => intro k x hk; simp at hk
  | cons a l ih =>
    intro k x hk j hj
    rw [List.flatMap_cons]
    match k, hk with
    | 0, hk =>
      simp at hk
      subst hk
      rw [Nat.zero_mul, Nat.zero_add, List.getElem?_append_left (by rw [hf]; exact hj)]
    | k + 1, hk =>
      rw [List.getElem?_append_right (by rw [hf, Nat.succ_mul]; omega), hf, show (k + 1) * m + j - m = k * m + j by rw [Nat.succ_mul]; omega]
      exact ih k x (by simpa using hk) j hj
theorem lastZ_get (l : List PutN) (r : Nat) (hr : r < l.length) (j : Nat) (hj : j < 5) : gz (lastZ l) (r * 5 + j) = (putZ (l.getD r zPut)).getD j 0 := by
  have hx : l[r]? = some (l.getD r zPut) := by rw [List.getD_eq_getElem?_getD, List.getElem?_eq_getElem hr]; rfl
  have := flat_atG putZ 5 (fun _ => rfl) l r (l.getD r zPut) hx j hj
  unfold gz lastZ
  rw [List.getD_eq_getElem?_getD (l := l.flatMap putZ), this, ← List.getD_eq_getElem?_getD]
theorem size190 : (Tryd.prog.info? 190).map (·.size) = some 40 := by kernel_rfl
theorem zero190 (w : World) : (zeroValue 190).run Tryd.prog w = .ok (.agg (S (lastZ (List.replicate 8 zPut)))) w := by kernel_rfl
end Go.Proofs.YtmmflekajbeamaaDoor

namespace Go.Proofs.YtmmflekajbeamaaDoor
open Go.RowKit

theorem wdsT_take {ws : List Nat} {k x : Nat} (h : ws[k]? = some x) : wdsT (ws.take (k + 1)) = wdsT (ws.take k) ++ numB 4 x := by rw [take_snoc' h, wdsT_snoc]
set_option maxRecDepth 100000 in
set_option maxHeartbeats 2000000 in
theorem wdText_any (ws : List Nat) (w : World) (hl : ws.length ≤ 8) (hw : ∀ v ∈ ws, v < 4294967296) :
    Calls Tryd.prog 97 #[.agg (S (wdZ ws))] w fun e' w' => e' = .returned (.string (bya (wdsT ws))) ∧ Below w.heap.size w w' := by
  have hzl := wdZ_len hl
  have hr : RowI (w.alloc (.cells (S (wdZ ws)) 127)) w.heap.size 127 (wdZ ws) := _root_.Go.heap_alloc_new w _
  have hb1 := hide ((Below.refl w.heap.size w).alloc (Nat.le_refl _) (.cells (S (wdZ ws)) 127))
  have c0 := hr.cell 0 (by omega)
  rw [wdZ_0] at c0
  have HRr := hide hr
  have HWd : Hid (∀ k, k < ws.length → ws[k]? = some (ws.getD k 0) ∧ ws.getD k 0 < 4294967296 ∧ gz (wdZ ws) (1 + k) = (ws.getD k 0 : Nat)) := fun k hk' => by
    refine ⟨by rw [List.getD_eq_getElem?_getD, List.getElem?_eq_getElem hk']; rfl, ?_, wdZ_at hk'⟩
    rw [List.getD_eq_getElem?_getD, List.getElem?_eq_getElem hk']
    exact hw _ (List.getElem_mem _)
  have hl' : (ws.length : Int) ≤ 8 := by omega
  clear hr hw
  go_enter Tryd.func97, Tryd.ntmps97
  go_wp2_with fail
  go_loopw [3, 11] (fun v i wr => ∃ k : Nat, k ≤ ws.length ∧ i = .int .i64 k ∧ wr.ownsRow (w.heap.size + 1) 5 1 v (wdsT (ws.take k)).length (u8C (wdsT (ws.take k))) ∧ RowI wr w.heap.size 127 (wdZ ws) ∧ Below w.heap.size w wr) (fun _ i _ => ws.length - (intOf i).toNat)
  case atStart => exact ⟨0, Nat.zero_le _, rfl, World.ownsRow_nil _ _ _ _, HRr.out, hb1.out⟩
  case round =>
    obtain ⟨k, hk, rfl, hown, hrow, hbl⟩ := hrel
    obtain ⟨va, vc, hv⟩ := owns_len hown
    have HO := hide hown; have HBl := hide hbl; have HRw := hide hrow
    have hwz : w.heap.size < wr.heap.size := hrow.lt
    have hTl : (wdsT (ws.take k)).length ≤ 32 := by rw [wdsT_len, List.length_take]; omega
    by_cases hlt : k < ws.length
    · have hlt' : (k : Int) < (ws.length : Int) := by omega
      obtain ⟨e1, e2, e3⟩ := HWd.out k hlt
      have cc := hrow.cell (1 + k) (by omega)
      rw [e3] at cc
      have HS := hide (wdsT_take e1)
      have HAp := hide (numAppend_any (w.heap.size + 1) u3 (wdsT (ws.take k)) (ws.getD k 0) 4 wr (by omega) hown (by omega) (by decide))
      subst hv
      generalize ws.getD k 0 = x at *
      clear e1 e2 e3 hown hrow hbl
      go_wp2_with fail
      refine (unhide HAp).mono ?_
      rintro e w2 ⟨v', rfl, b1, b2, b3⟩
      have HB2 := hide b2; have HO2 := hide b1
      have HR2 : Hid (RowI w2 w.heap.size 127 (wdZ ws)) := HRw.out.keep (b2.block _ (by omega))
      clear b1 b2 b3
      go_wp2_with fail
      refine ⟨⟨k + 1, by omega, by go_num, ?_, HR2.out, HBl.out.trans (HB2.out.mono (by omega))⟩, by simp [intOf]; omega⟩
      rw [HS.out]
      exact HO2.out
    · have hlt' : ¬ (k : Int) < (ws.length : Int) := by omega
      have hkn : k = ws.length := by omega
      subst hkn
      rw [List.take_length] at HO hv
      have kc := u8_str HO.out
      subst hv
      clear hown hrow hbl
      go_wp2_with fail
      go_ret
      exact ⟨rfl, HBl.out⟩

theorem blkW_len (mem : List Int) (pc n : Nat) : (blkW mem pc n).length = n := by simp [blkW]
theorem blkW_at (mem : List Int) (pc : Nat) {n j : Nat} (h : j < n) : (blkW mem pc n).getD j 0 = (mem.getD (pc + j) 0).toNat := by
  unfold blkW
  rw [List.getD_eq_getElem?_getD, List.getElem?_map, List.getElem?_range h]; rfl
theorem grW_iff (mem : List Int) (pc k : Nat) (hm : ∀ i, 0 ≤ mem.getD i 0) : grB (blkW mem pc k) = true ↔ k < 8 ∧ (0 < k → plW (mem.getD (pc + (k - 1)) 0) = true) := by
  unfold grB plN
  rw [decide_eq_true_eq, blkW_len]
  by_cases h : 0 < k
  · rw [blkW_at mem pc (by omega), Int.toNat_of_nonneg (hm _)]
    by_cases hp : plW (mem.getD (pc + (k - 1)) 0) = true
    · rw [if_neg (fun h => by rw [hp] at h; exact absurd h.2 (by decide))]
      exact ⟨fun q => ⟨q.1, fun _ => hp⟩, fun q => ⟨q.1, rfl⟩⟩
    · rw [if_pos ⟨h, by simpa using hp⟩]
      exact ⟨fun q => by omega, fun q => absurd (q.2 h) hp⟩
  · rw [if_neg (fun q => h q.1)]
    exact ⟨fun q => ⟨q.1, fun q => absurd q h⟩, fun q => ⟨q.1, rfl⟩⟩
theorem blkN_end (mem : List Int) (pc k : Nat) (h1 : 1 ≤ k) (h8 : k ≤ 8) (hp : ∀ j, j + 1 < k → plW (mem.getD (pc + j) 0) = true) (hk : pc + k ≤ 128) (he : pc + k = 128 ∨ k = 8 ∨ ¬ plW (mem.getD (pc + (k - 1)) 0) = true) : blkN mem 8 pc = k := by
  rw [blkN_go mem pc (9 - k) (k - 1) (fun j hj => hp j (by omega)) (by omega) (by omega)]
  obtain ⟨f, hf⟩ : ∃ f, 9 - k = f + 1 := ⟨8 - k, by omega⟩
  rw [hf, blkN, if_pos (by omega)]
  by_cases hpl : plW (mem.getD (pc + (k - 1)) 0) = true
  · rw [if_pos hpl]
    have : blkN mem f (pc + (k - 1) + 1) = 0 := by
      rcases he with h | h | h
      · cases f with
        | zero => rfl
        | succ f => rw [blkN, if_neg (by omega)]
      · obtain rfl : f = 0 := by omega
        rfl
      · exact absurd hpl h
    rw [this]; omega
  · rw [if_neg hpl]; omega
theorem blkW_bd (mem : List Int) (pc k : Nat) (hm : ∀ i, 0 ≤ mem.getD i 0 ∧ mem.getD i 0 < 4294967296) : ∀ v ∈ blkW mem pc k, v < 4294967296 := fun v hv => by
  obtain ⟨j, _, rfl⟩ := List.mem_map.1 hv
  have := hm (pc + j)
  omega

set_option maxRecDepth 100000 in
set_option maxHeartbeats 2000000 in
theorem blockAt_any (mem : List Int) (pc : Nat) (w : World) (ht : Tab w) (hl : mem.length = 128) (hm : ∀ i, 0 ≤ mem.getD i 0 ∧ mem.getD i 0 < 4294967296) (hpc : pc < 128) :
    Calls Tryd.prog 96 #[.agg (S mem), .int .i64 (pc : Int)] w fun e' w' => e' = .returned (.agg (S (wdZ (blkW mem pc (blkN mem 8 pc))))) ∧ Below w.heap.size w w' := by
  have z9 := zero9
  have HTb := hide ht
  have hpos := ht.pos
  clear ht
  have hr0 : RowI (((w.alloc (.cells (S mem) 32)).alloc (.cells (S (wdZ [])) 127)).alloc (.cells (S (wdZ [])) 127)) w.heap.size 32 mem := by
    unfold RowI
    rw [Below.heap_alloc _ _ _ (by rw [size_alloc1, size_alloc1]; omega), Below.heap_alloc _ _ _ (by rw [size_alloc1]; omega), _root_.Go.heap_alloc_new]
  have hr1 : RowI (((w.alloc (.cells (S mem) 32)).alloc (.cells (S (wdZ [])) 127)).alloc (.cells (S (wdZ [])) 127)) (w.heap.size + 1) 127 (wdZ []) := by
    unfold RowI
    rw [Below.heap_alloc _ _ _ (by rw [size_alloc1, size_alloc1]; omega)]
    have := _root_.Go.heap_alloc_new (w.alloc (.cells (S mem) 32)) (.cells (S (wdZ [])) 127)
    rw [size_alloc1] at this
    exact this
  have hr2 : RowI (((w.alloc (.cells (S mem) 32)).alloc (.cells (S (wdZ [])) 127)).alloc (.cells (S (wdZ [])) 127)) (w.heap.size + 1 + 1) 127 (wdZ []) := by
    unfold RowI
    have := _root_.Go.heap_alloc_new ((w.alloc (.cells (S mem) 32)).alloc (.cells (S (wdZ [])) 127)) (.cells (S (wdZ [])) 127)
    rw [size_alloc1, size_alloc1] at this
    exact this
  have hb0 : Below w.heap.size w (((w.alloc (.cells (S mem) 32)).alloc (.cells (S (wdZ [])) 127)).alloc (.cells (S (wdZ [])) 127)) := (((Below.refl _ _).alloc (Nat.le_refl _) _).alloc (by rw [size_alloc1]; omega) _).alloc (by rw [size_alloc1, size_alloc1]; omega) _
  have HR0 := hide hr0; have HR1 := hide hr1; have HR2 := hide hr2; have HB0 := hide hb0
  have HM := hide hm
  clear hr0 hr1 hr2 hb0 hm
  have hpc' : (pc : Int) < 128 := by omega
  go_enter Tryd.func96, Tryd.ntmps96
  go_wp2_with fail
  go_loopw [6] (fun i wr => ∃ k p : Nat, p = pc + k ∧ i = .int .i64 p ∧ p ≤ 128 ∧ Hid (k ≤ 8 ∧ RowI wr w.heap.size 32 mem ∧ RowI wr (w.heap.size + 1) 127 (wdZ []) ∧ RowI wr (w.heap.size + 1 + 1) 127 (wdZ (blkW mem pc k)) ∧ Below w.heap.size w wr ∧ ∀ q, q + 1 < k → plW (mem.getD (pc + q) 0) = true)) (fun i _ => 128 - (intOf i).toNat)
  case atStart => exact ⟨0, pc, rfl, rfl, by omega, Nat.zero_le _, HR0.out, HR1.out, HR2.out, HB0.out, fun q hq => by omega⟩
  case round =>
    obtain ⟨k, p, hp, rfl, hp8, HR⟩ := hrel
    obtain ⟨k8, rm, rr, rw', hbl, hpl⟩ := HR.out
    have hlen := wdZ_len (ws := blkW mem pc k) (by rw [blkW_len]; exact k8)
    have rI0 := rr.isRow 9 rfl
    have rI := rw'.isRow 9 hlen
    have rD := rw'.rowD
    have hwz : w.heap.size + 1 + 1 < wr.heap.size := rw'.lt
    have HRr := hide rr; have HRw := hide rw'; have HBl := hide hbl; have HLen := hide hlen; have HRm := hide rm
    have HP := hide hp
    have hgr := grW_iff mem pc k (fun i => (HM.out i).1)
    by_cases hlt : p < 128
    · have hlt' : (p : Int) < 128 := by omega
      have HMg := hide (mayGrow_any (blkW mem pc k) wr (HTb.out.below hpos hbl) (by rw [blkW_len]; exact k8) (blkW_bd mem pc k HM.out))
      rw [S9 hlen] at HMg
      have x0 := rw'.cell 0 (by omega); have x1 := rw'.cell 1 (by omega); have x2 := rw'.cell 2 (by omega); have x3 := rw'.cell 3 (by omega); have x4 := rw'.cell 4 (by omega); have x5 := rw'.cell 5 (by omega); have x6 := rw'.cell 6 (by omega); have x7 := rw'.cell 7 (by omega); have x8 := rw'.cell 8 (by omega)
      cases hq : grB (blkW mem pc k)
      · rw [hq] at HMg hgr
        have hk1 : 1 ≤ k := by
          rcases Nat.eq_zero_or_pos k with h0 | h0
          · have := hgr.2 ⟨by omega, fun q => by omega⟩
            exact absurd this (by decide)
          · exact h0
        have HE := hide (blkN_end mem pc k hk1 k8 hpl (by omega) (by
          by_cases h8 : k < 8
          · exact .inr (.inr fun hh => absurd (hgr.2 ⟨h8, fun _ => hh⟩) (by decide))
          · exact .inr (.inl (by omega))))
        clear hq hgr hpl hbl k8 rr rw' rm hp hk1 hlen
        go_wp2_with fail
        refine (unhide HMg).mono ?_
        rintro e w1 ⟨rfl, hb1⟩
        clear x0 x1 x2 x3 x4 x5 x6 x7 x8
        have HB1 : Hid (Below w.heap.size w w1) := HBl.out.trans (hb1.mono (by omega))
        have HR1' : Hid (RowI w1 (w.heap.size + 1) 127 (wdZ [])) := HRr.out.keep (hb1.block _ (by omega))
        have HRw1 : Hid (RowI w1 (w.heap.size + 1 + 1) 127 (wdZ (blkW mem pc k))) := HRw.out.keep (hb1.block _ (by omega))
        clear hb1
        go_wp2_with (first | (refine wpList_loadR rfl Tryd.underlying127 size9 rfl _ rfl (w.heap.size + 1 + 1) rfl (HRw1.out.isRow 9 HLen.out) _ HRw1.out.rowD ?_) | (refine wpList_storeR size9 rfl _ _ rfl (w.heap.size + 1) rfl (wdZ (blkW mem pc k)) rfl HLen.out (HR1'.out.isRow 9 rfl) _ rfl ?_))
        rw [HE.out]
        exact bodyPost_ret (v := .agg (S (wdZ (blkW mem pc k)))) (results_cell_row Tryd.results96 _ _ (w.heap.size + 1) 127 (S (wdZ (blkW mem pc k))) (0, 0) _ rfl (HR1'.out.setRow (wdZ (blkW mem pc k))) Tryd.underlying127 rfl (by rw [size9, S_size, HLen.out])) rfl ⟨rfl, below_setRow HB1.out (by omega) _⟩
      · rw [hq] at HMg hgr
        obtain ⟨h8, hpk⟩ := hgr.1 rfl
        have hl8 : (blkW mem pc k).length < 8 := by rw [blkW_len]; exact h8
        have hc := HM.out p
        have HX : Hid (blkW mem pc (k + 1) = blkW mem pc k ++ [(mem.getD p 0).toNat]) := by unfold Hid; rw [blkW_succ, HP.out]
        have hx0 : mem.getD p 0 = (((mem.getD p 0).toNat : Nat) : Int) := (Int.toNat_of_nonneg hc.1).symm
        have cm := rm.cell p (by omega)
        unfold gz at cm
        rw [hx0] at cm
        generalize (mem.getD p 0).toNat = x at *
        have HFin : Hid (∀ w1 w2, Below wr.heap.size wr w1 → RowI w2 (w.heap.size + 1 + 1) 127 (wdZ (blkW mem pc k ++ [x])) → (∀ B, B ≤ w.heap.size + 1 + 1 → Below B w1 w2) → (∀ g, g ≠ w.heap.size + 1 + 1 → w2.heap[g]? = w1.heap[g]?) → (k + 1 ≤ 8 ∧ RowI w2 w.heap.size 32 mem ∧ RowI w2 (w.heap.size + 1) 127 (wdZ []) ∧ RowI w2 (w.heap.size + 1 + 1) 127 (wdZ (blkW mem pc (k + 1))) ∧ Below w.heap.size w w2 ∧ ∀ q, q + 1 < k + 1 → plW (mem.getD (pc + q) 0) = true)) := by
          intro w1 w2 b1 b2 b3 b4
          refine ⟨by omega, rm.keep ((b4 _ (by omega)).trans (b1.block _ (by omega))), rr.keep ((b4 _ (by omega)).trans (b1.block _ (by omega))), by rw [HX.out]; exact b2, (hbl.trans (b1.mono (by omega))).trans (b3 _ (by omega)), fun q hq' => ?_⟩
          by_cases hqk : q + 1 < k
          · exact hpl q hqk
          · have : q = k - 1 := by omega
            rw [this]
            exact hpk (by omega)
        clear hq hgr hpl hbl k8 rr rw' rm hp hlen hpk hx0 hc
        go_wp2_with fail
        refine (unhide HMg).mono ?_
        rintro e w1 ⟨rfl, hb1⟩
        clear x0 x1 x2 x3 x4 x5 x6 x7 x8
        have HB1 := hide hb1
        have HAdd := hide (addW_any (w.heap.size + 1 + 1) (blkW mem pc k) x w1 (HRw.out.keep (hb1.block _ (by omega))) hl8)
        have cm1 := below_cell' hb1 w.heap.size p (by omega)
        rw [cm] at cm1
        clear hb1 cm
        go_wp2_with fail
        refine (unhide HAdd).mono ?_
        rintro e w2 ⟨rfl, b2, b3, b4⟩
        have HE := hide (HFin.out w1 w2 HB1.out b2 b3 b4)
        clear b2 b3 b4
        go_wp2_with fail
        refine ⟨⟨k + 1, p + 1, ?_, by go_num, by omega, HE.out⟩, by simp [intOf]; omega⟩
        have := HP.out; omega
    · have hlt' : ¬ (p : Int) < 128 := by omega
      have HE := hide (blkN_end mem pc k (by omega) k8 hpl (by omega) (.inl (by omega)))
      clear hgr hpl hbl k8 rr rw' rm hp hlen
      go_wp2_with (first | (refine wpList_loadR rfl Tryd.underlying127 size9 rfl _ rfl (w.heap.size + 1 + 1) rfl rI _ rD ?_) | (refine wpList_storeR size9 rfl _ _ rfl (w.heap.size + 1) rfl (wdZ (blkW mem pc k)) rfl HLen.out rI0 _ rfl ?_))
      rw [HE.out]
      exact bodyPost_ret (v := .agg (S (wdZ (blkW mem pc k)))) (results_cell_row Tryd.results96 _ _ (w.heap.size + 1) 127 (S (wdZ (blkW mem pc k))) (0, 0) _ rfl (HRr.out.setRow (wdZ (blkW mem pc k))) Tryd.underlying127 rfl (by rw [size9, S_size, HLen.out])) rfl ⟨rfl, below_setRow HBl.out (by omega) _⟩
end Go.Proofs.YtmmflekajbeamaaDoor
