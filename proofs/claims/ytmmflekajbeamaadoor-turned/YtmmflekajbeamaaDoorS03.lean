/-
  Sound, as plain mathematics: a block's own plan comes to the same as the block; a put on a slot that is no register, behind all others, changes no register.
  Sound, as plain mathematics: what plain words do to a state, step by step, is what their puts do to the registers.
  The small functions of the machine and of the document's own answer: what each call gives, said of numbers (no memory but new blocks).
  The functions that ask whether a state is one: package machine's and the document's.
-/
import Derived.Test.YtmmflekajbeamaaDoorS02
import Derived.Test.YtmmflekajbeamaaDoorRows
import Derived.Test.YtmmflekajbeamaaDoorS01
import Derived.Deep.Light
namespace Go.Proofs.YtmmflekajbeamaaDoor

theorem getD_lt {α : Type} {l : List α} {i : Nat} (z y : α) (h : i < l.length) : l.getD i z = l.getD i y := by
  rw [List.getD_eq_getElem?_getD, List.getD_eq_getElem?_getD, List.getElem?_eq_getElem h]; rfl
/-- What the last puts on registers tell of their texts. -/
def KnR (last : List PutN) (l : List (List UInt8)) : Prop := ∀ r, r < 8 → (last.getD r zPut).kind = 1 → (last.getD r zPut).k < 4294967296 ∧ l.getD r [] = sCon (last.getD r zPut).k
theorem KnR.zero : KnR kn0.1 begS := fun r hr h => by
  have h2 : kn0.1.getD r zPut = zPut := by
    unfold kn0
    rw [List.getD_eq_getElem?_getD, List.getElem?_replicate, if_pos hr]; rfl
  rw [h2] at h
  cases h
theorem knP_vS {last : List PutN} {l : List (List UInt8)} (h : KnR last l) {p : PutN} (hp : okB p) : vS l (knP last p) = vS l p := by
  obtain ⟨k1, k6, d8, a8, b8, kk, ok⟩ := hp
  unfold knP
  split
  · rename_i hc
    obtain ⟨ha, hx, hy⟩ := hc
    unfold arN at ha
    have ha' := of_decide_eq_true ha
    obtain ⟨x1, x2⟩ := h p.a a8 hx
    obtain ⟨y1, y2⟩ := h p.b b8 hy
    unfold vS
    dsimp only
    rw [if_pos rfl, if_neg (by omega), if_neg (by omega), if_neg (by omega), x2, y2]
    unfold jnS
    rw [if_pos ⟨isCon_con _, isCon_con _⟩, valX_con _ x1, valX_con _ y1]
  · rfl
theorem KnR.step {last : List PutN} {l : List (List UInt8)} (h : KnR last l) (hl : last.length = 8) (ht : l.length = 16) (hb : ∀ q ∈ last, q.k < 4294967296) {p : PutN} (hp : okB p) : KnR (last.set p.d (knP last p)) (stS l p) := by
  have d8 := hp.2.2.1
  intro r hr
  unfold stS
  rw [getD_set _ _ _ _ _ (by rw [hl]; exact d8), getD_set _ _ _ _ _ (by rw [ht]; omega)]
  by_cases hrd : r = p.d
  · rw [if_pos hrd, if_pos hrd]
    intro hk
    refine ⟨(hp.kn hb).2.2.2.2.2.1, ?_⟩
    rw [← knP_vS h hp]
    unfold vS
    rw [if_pos hk]
  · rw [if_neg hrd, if_neg hrd]
    exact h r hr
theorem kn_come {ps : List PutN} (h : ∀ p ∈ ps, okB p) : ∀ k, k ≤ ps.length → KnR ((ps.take k).foldl knS kn0).1 ((ps.take k).foldl stS begS) ∧ ((ps.take k).foldl knS kn0).2.foldl stS begS = (ps.take k).foldl stS begS := by
  intro k
  induction k with
  | zero => intro _; exact ⟨KnR.zero, rfl⟩
  | succ k ih =>
    intro hk
    obtain ⟨h1, h2⟩ := ih (by omega)
    have hx : ps[k]? = some ps[k] := List.getElem?_eq_getElem (by omega)
    have hp := h _ (List.getElem_mem (by omega : k < ps.length))
    have hO := KnOK.fold h k (by omega)
    have hlen : ((ps.take k).foldl stS begS).length = 16 := by rw [foldS_len]; simp [begS]
    rw [foldl_take_succ _ _ _ _ _ hx, foldl_take_succ _ _ _ _ _ hx]
    refine ⟨h1.step hO.l8 hlen hO.bd hp, ?_⟩
    show ((List.foldl knS kn0 (ps.take k)).2 ++ [knP (List.foldl knS kn0 (ps.take k)).1 ps[k]]).foldl stS begS = _
    rw [List.foldl_append, h2]
    have e : ∀ l, vS l (knP (List.foldl knS kn0 (ps.take k)).1 ps[k]) = vS l ps[k] → stS l (knP (List.foldl knS kn0 (ps.take k)).1 ps[k]) = stS l ps[k] := fun l e => by
      unfold stS
      rw [e, knP_d]
    exact e _ (knP_vS h1 hp)
theorem wKn_come {ps : List PutN} (h : ∀ p ∈ ps, okB p) : comeS (wKn ps) = comeS ps := by
  have := (kn_come h ps.length (Nat.le_refl _)).2
  rw [List.take_length] at this
  exact this
theorem idle_come : ∀ (l : List PutN) (x y : List (List UInt8)), (∀ p ∈ l, okB p) → x.length = 16 → y.length = 16 → (∀ q, q < 8 → nd l q = true → x.getD q [] = y.getD q []) → ∀ q, q < 8 → (l.foldl stS x).getD q [] = ((idle l).foldl stS y).getD q [] := by
  intro l
  induction l with
  | nil => intro x y _ _ _ h q hq; exact h q hq rfl
  | cons p ps ih =>
    intro x y hp hx hy h
    have hpp := hp p List.mem_cons_self
    obtain ⟨k1, k6, d8, a8, b8, kk, ok⟩ := hpp
    have hps : ∀ q ∈ ps, okB q := fun q hq => hp q (List.mem_cons_of_mem _ hq)
    have hxl : (stS x p).length = 16 := by rw [stS_len, hx]
    by_cases hn : nd ps p.d = true
    · have hrd : ∀ r, r < 8 → rdB p r = true → x.getD r [] = y.getD r [] := fun r hr hb => h r hr (by rw [nd, if_pos hn, if_pos hb])
      have hv : vS x p = vS y p := by
        have hc : p.kind = 1 ∨ p.kind = 6 ∨ (2 ≤ p.kind ∧ p.kind ≤ 5) := by omega
        unfold vS
        rcases hc with h1 | h6 | hm
        · rw [if_pos h1, if_pos h1]
        · rw [hrd p.a a8 (by unfold rdB; rw [if_neg (by omega), if_pos (Or.inl h6)]; exact decide_eq_true rfl), if_neg (by omega), if_pos h6, if_neg (by omega), if_pos h6]
        · have e : ∀ r, rdB p r = decide (p.a = r ∨ p.b = r) := fun r => by unfold rdB; rw [if_neg (by omega), if_neg (by omega)]
          rw [hrd p.a a8 (by rw [e]; exact decide_eq_true (Or.inl rfl)), hrd p.b b8 (by rw [e]; exact decide_eq_true (Or.inr rfl))]
      have := ih (stS x p) (stS y p) hps hxl (by rw [stS_len, hy]) (fun q hq hnq => by
        unfold stS
        rw [getD_set _ _ _ _ _ (by omega), getD_set _ _ _ _ _ (by omega), hv]
        by_cases hqd : q = p.d
        · rw [if_pos hqd, if_pos hqd]
        · rw [if_neg hqd, if_neg hqd]
          refine h q hq ?_
          rw [nd, if_pos hn]
          split
          · rfl
          · rw [if_neg (fun e => hqd e.symm)]; exact hnq)
      rw [idle, if_pos hn]
      exact this
    · have := ih (stS x p) y hps hxl hy (fun q hq hnq => by
        have hqd : q ≠ p.d := fun e => hn (e ▸ hnq)
        unfold stS
        rw [getD_set _ _ _ _ _ (by omega), if_neg hqd]
        refine h q hq ?_
        rw [nd, if_neg hn]
        exact hnq)
      rw [idle, if_neg hn]
      exact this
/-- A block's own plan comes to the same as the block. -/
theorem own_come {s : ByteArray} (h : blkOK s) : (comeS (blkPuts s)).take 8 = (comeS (ownP s)).take 8 := by
  rw [take_eq_iff [] (by rw [comeS_len]; decide) (by rw [comeS_len]; decide)]
  intro q hq
  rw [← wKn_come (blkPuts_okB h)]
  exact idle_come (wKn (blkPuts s)) begS begS (wKn_ok (blkPuts_okB h)).1 (by simp [begS]) (by simp [begS]) (fun _ _ _ => rfl) q hq
/-- A put more, on a slot that is no register, behind all others. -/
theorem come_more (ps : List PutN) (p : PutN) (hd : 8 ≤ p.d) : (comeS (ps ++ [p])).take 8 = (comeS ps).take 8 := by
  rw [take_eq_iff [] (by rw [comeS_len]; decide) (by rw [comeS_len]; decide)]
  intro q hq
  have e : comeS (ps ++ [p]) = stS (comeS ps) p := by unfold comeS; rw [List.foldl_append]; rfl
  rw [e]
  unfold stS
  by_cases hlt : p.d < (comeS ps).length
  · rw [getD_set _ _ _ _ _ hlt, if_neg (by omega)]
  · rw [List.set_eq_of_length_le (by omega)]
end Go.Proofs.YtmmflekajbeamaaDoor

namespace Go.Proofs.YtmmflekajbeamaaDoor

/-- A state out of its parts. -/
def mkZ (regs mem : List Int) (pc st : Int) : List Int := regs ++ (mem ++ [pc, st])
theorem getD_appR {α : Type} {l x : List α} {i : Nat} (z : α) (h : l.length ≤ i) : (l ++ x).getD i z = x.getD (i - l.length) z := by
  rw [List.getD_eq_getElem?_getD, List.getD_eq_getElem?_getD, List.getElem?_append_right h]
section
variable {regs mem : List Int} {pc st : Int}
theorem mkZ_len (hr : regs.length = 8) (hm : mem.length = 128) : (mkZ regs mem pc st).length = 138 := by simp [mkZ, hr, hm]
theorem mkZ_pc (hr : regs.length = 8) (hm : mem.length = 128) : gz (mkZ regs mem pc st) 136 = pc := by
  unfold gz mkZ
  rw [getD_appR _ (by omega), hr, getD_appR _ (by omega), hm]; rfl
theorem mkZ_st (hr : regs.length = 8) (hm : mem.length = 128) : gz (mkZ regs mem pc st) 137 = st := by
  unfold gz mkZ
  rw [getD_appR _ (by omega), hr, getD_appR _ (by omega), hm]; rfl
theorem mkZ_set_pc (hr : regs.length = 8) (hm : mem.length = 128) (v : Int) : (mkZ regs mem pc st).set 136 v = mkZ regs mem v st := by
  unfold mkZ
  rw [List.set_append_right _ _ (by omega), hr, List.set_append_right _ _ (by omega), hm]; rfl
theorem mkZ_set_st (hr : regs.length = 8) (hm : mem.length = 128) (v : Int) : (mkZ regs mem pc st).set 137 v = mkZ regs mem pc v := by
  unfold mkZ
  rw [List.set_append_right _ _ (by omega), hr, List.set_append_right _ _ (by omega), hm]; rfl
end
theorem mkZ_reg {regs mem : List Int} {pc st : Int} (hr : regs.length = 8) {i : Nat} (hi : i < 8) : gz (mkZ regs mem pc st) i = regs.getD i 0 := by
  unfold gz mkZ
  rw [getD_app _ _ (by omega)]
theorem mkZ_mem {regs mem : List Int} {pc st : Int} (hr : regs.length = 8) (hm : mem.length = 128) {i : Nat} (hi : i < 128) : gz (mkZ regs mem pc st) (8 + i) = mem.getD i 0 := by
  unfold gz mkZ
  rw [getD_appR _ (by omega), hr, Nat.add_sub_cancel_left, getD_app _ _ (by omega)]
theorem mkZ_set_reg {regs mem : List Int} {pc st : Int} (hr : regs.length = 8) {i : Nat} (hi : i < 8) (v : Int) : (mkZ regs mem pc st).set i v = mkZ (regs.set i v) mem pc st := by
  unfold mkZ
  rw [List.set_append_left _ _ (by omega)]
theorem z_mk {z : List Int} (h : z.length = 138) : z = mkZ (z.take 8) ((z.drop 8).take 128) (gz z 136) (gz z 137) := by
  unfold mkZ
  have e1 : z = z.take 8 ++ z.drop 8 := (List.take_append_drop 8 z).symm
  have e2 : z.drop 8 = (z.drop 8).take 128 ++ (z.drop 8).drop 128 := (List.take_append_drop 128 _).symm
  have e3 : (z.drop 8).drop 128 = [gz z 136, gz z 137] := by
    rw [List.drop_drop, List.drop_eq_getElem_cons (by omega), List.drop_eq_getElem_cons (by omega), List.drop_of_length_le (by omega)]
    unfold gz
    rw [List.getD_eq_getElem?_getD, List.getD_eq_getElem?_getD, List.getElem?_eq_getElem (by omega), List.getElem?_eq_getElem (by omega)]
    rfl
  rw [← e3, ← e2, ← e1]
theorem mkZ_stB {regs mem : List Int} {pc st : Int} (hr : WL 8 regs) (hm : WL 128 mem) (p0 : 0 ≤ pc) (p1 : pc < 128) (s0 : 0 ≤ st) (s1 : st ≤ 2) : stB (mkZ regs mem pc st) = true := by
  unfold stB regsB memB pcB
  rw [mkZ_pc hr.1 hm.1, mkZ_st hr.1 hm.1]
  simp only [Bool.and_eq_true, List.all_eq_true, List.mem_range, decide_eq_true_eq]
  refine ⟨⟨fun i hi => ?_, fun i hi => ?_⟩, p0, p1, s0, s1⟩
  · rw [mkZ_reg hr.1 hi]; exact (isW_iff _).2 (hr.at hi)
  · rw [mkZ_mem hr.1 hm.1 hi]; exact (isW_iff _).2 (hm.at hi)
theorem stB_parts {z : List Int} (h : stB z = true) (hl : z.length = 138) : WL 8 (z.take 8) ∧ WL 128 ((z.drop 8).take 128) := by
  refine ⟨⟨by simp [hl], fun x hx => ?_⟩, ⟨by simp [hl], fun x hx => ?_⟩⟩
  · obtain ⟨i, hi⟩ := List.getElem?_of_mem hx
    rw [List.getElem?_take] at hi
    split at hi
    · rename_i h8
      have := stB_reg h i (by omega)
      unfold gz at this
      rw [List.getD_eq_getElem?_getD, hi] at this
      exact this
    · cases hi
  · obtain ⟨i, hi⟩ := List.getElem?_of_mem hx
    rw [List.getElem?_take] at hi
    split at hi
    · rename_i h8
      rw [List.getElem?_drop] at hi
      have := stB_reg h (8 + i) (by omega)
      unfold gz at this
      rw [List.getD_eq_getElem?_getD, hi] at this
      exact this
    · cases hi
/-- A put on registers alone. -/
def rD (mem regs : List Int) (p : PutN) : List Int := regs.set p.d (vD regs mem p)
theorem vD_app {mem regs : List Int} (t : List Int) (hr : regs.length = 8) {p : PutN} (hp : okB p) : vD (regs ++ t) mem p = vD regs mem p := by
  obtain ⟨_, _, d8, a8, b8, _, _⟩ := hp
  unfold vD
  rw [getD_app _ _ (by omega), getD_app _ _ (by omega)]
theorem stD_app {mem regs : List Int} (t : List Int) (hr : regs.length = 8) {p : PutN} (hp : okB p) : stD mem (regs ++ t) p = rD mem regs p ++ t := by
  unfold stD rD
  rw [vD_app t hr hp, List.set_append_left _ _ (by rw [hr]; exact hp.2.2.1)]
theorem rD_len (mem regs : List Int) (p : PutN) : (rD mem regs p).length = regs.length := by simp [rD]
theorem doL_app {mem : List Int} (t : List Int) : ∀ (ps : List PutN) {regs : List Int}, regs.length = 8 → (∀ p ∈ ps, okB p) → doL mem ps (regs ++ t) = ps.foldl (rD mem) regs ++ t := by
  intro ps
  induction ps with
  | nil => intro regs _ _; rfl
  | cons p ps ih =>
    intro regs hr hp
    show doL mem ps (stD mem (regs ++ t) p) = _
    rw [stD_app t hr (hp p List.mem_cons_self), ih (by rw [rD_len, hr]) (fun q hq => hp q (List.mem_cons_of_mem _ hq))]
    rfl
theorem rDs_len {mem : List Int} (ps : List PutN) : ∀ regs : List Int, (ps.foldl (rD mem) regs).length = regs.length := by
  induction ps with
  | nil => intro regs; rfl
  | cons p ps ih => intro regs; rw [List.foldl_cons, ih, rD_len]
theorem doL_regs {mem regs : List Int} {ps : List PutN} (hr : regs.length = 8) (hp : ∀ p ∈ ps, okB p) : (doL mem ps (begD regs)).take 8 = ps.foldl (rD mem) regs := by
  unfold begD
  rw [doL_app _ ps hr hp, List.take_append_of_le_length (by rw [rDs_len, hr]; exact Nat.le_refl _), List.take_of_length_le (by rw [rDs_len, hr]; exact Nat.le_refl _)]
theorem rD_WL {mem regs : List Int} (hr : WL 8 regs) (hm : WL 128 mem) {p : PutN} (hp : okB p) : WL 8 (rD mem regs p) := by
  refine ⟨by rw [rD_len, hr.1], fun x hx => ?_⟩
  rcases List.mem_or_eq_of_mem_set hx with hx | rfl
  · exact hr.2 x hx
  · have := (WL.beg hr).vD hm hp.2.2.2.2.2.2 hp.2.2.2.2.2.1
    unfold begD at this
    rw [vD_app _ hr.1 hp] at this
    exact this
theorem putW_okB {v : Int} (h : plW v = true) : okB (putW v) := by
  obtain ⟨h1, h2, h3, h4, h5, h6, h7⟩ := putW_ok h
  exact ⟨h6, h7, h2, h3, h4, by omega, h1⟩
/-- A plain word's step. -/
theorem stp_plain {regs mem : List Int} {pc : Nat} (hr : WL 8 regs) (hm : WL 128 mem) (hp : pc < 128) (hpl : plW (mem.getD pc 0) = true) :
    stp (mkZ regs mem pc 0) = (mkZ (rD mem regs (putW (mem.getD pc 0))) mem (((pc : Int) + 1) % 128) 0, 0) := by
  have hs := mkZ_stB (st := 0) hr hm (by omega : (0 : Int) ≤ pc) (by omega) (Int.le_refl 0) (by decide)
  have hw : wordZ (mkZ regs mem pc 0) = mem.getD pc 0 := by
    unfold wordZ
    rw [mkZ_pc hr.1 hm.1, Int.toNat_natCast, mkZ_mem hr.1 hm.1 hp]
  obtain ⟨ha, hc⟩ := plB_cases hpl
  have hk := putW_okB hpl
  have hkn : knZ (mkZ regs mem pc 0) = true := by
    unfold knZ
    rw [hw]
    unfold plW at hpl
    rw [← kn_pl _ _ _ _ (by omega) (by omega) (by omega) (by omega) (by omega)]
    exact hpl
  unfold stp
  rw [if_neg (by rw [hs]; decide), if_neg (by rw [mkZ_st hr.1 hm.1]; simp), if_neg (by rw [hkn]; decide), hw]
  rw [Prod.mk.injEq]
  refine ⟨?_, rfl⟩
  generalize mem.getD pc 0 = v at *
  have b1 := fa_bd v; have b2 := fb_bd v; have b3 := fc_bd v; have b4 := fk_bd v
  have rl := hr.1
  unfold nxt
  rw [mkZ_pc hr.1 hm.1]
  rcases hc with h1 | ⟨h2, h5, hb, hcc⟩ | ⟨h6, hb⟩
  · rw [if_neg (by omega), if_pos h1, mkZ_set_reg rl (by omega), mkZ_set_pc (by simp [rl]) hm.1]
    have e : putW v = ⟨1, (fa v).toNat, 0, 0, (fk v).toNat⟩ := by unfold putW; rw [if_pos h1]
    rw [e]
    unfold rD vD
    dsimp only
    rw [if_pos rfl, show (((fk v).toNat : Nat) : Int) = fk v by omega]
  · rw [if_neg (by omega), if_neg (by omega), if_pos ⟨h2, h5⟩, mkZ_reg rl (by omega), mkZ_reg rl (by omega), mkZ_set_reg rl (by omega), mkZ_set_pc (by simp [rl]) hm.1]
    have e : putW v = ⟨(fop v).toNat, (fa v).toNat, (fb v).toNat, (fc v).toNat, 0⟩ := by unfold putW; rw [if_neg (by omega), if_neg (by omega)]
    rw [e]
    unfold rD vD
    dsimp only
    rw [if_neg (by omega), if_neg (by omega), if_neg (by omega), show (((fop v).toNat : Nat) : Int) = fop v by omega]
  · rw [if_neg (by omega), if_neg (by omega), if_neg (by omega), if_pos h6, mkZ_mem rl hm.1 (by omega), mkZ_reg (i := (fb v).toNat) rl (by omega), mkZ_set_reg rl (by omega), mkZ_set_pc (by simp [rl]) hm.1]
    have e : putW v = ⟨6, (fa v).toNat, (fb v).toNat, 0, (fk v).toNat⟩ := by unfold putW; rw [if_neg (by omega), if_pos h6]
    rw [e]
    unfold rD vD
    dsimp only
    rw [if_neg (by decide), if_pos rfl, show (((fk v).toNat : Nat) : Int) = fk v by omega]
end Go.Proofs.YtmmflekajbeamaaDoor

namespace Go.Proofs.YtmmflekajbeamaaDoor
open Go.RowKit

theorem ret_int {k : IntKind} {a b : Int} (h : a = b) : Ending.returned (.int k a) = .returned (.int k b) := by rw [h]
theorem ret_bool {a b : Bool} (h : a = b) : Ending.returned (.bool a) = .returned (.bool b) := by rw [h]

set_option maxHeartbeats 400000 in
theorem num_any (e : Int) (w : World) :
    Calls Tryd.prog 40 #[.int .i64 e] w fun e' w' => e' = .returned (.int .i64 e) ∧ w' = w := by
  go_enter Tryd.func40, Tryd.ntmps40
  go_wp2
  go_ret
  exact ⟨rfl, rfl⟩

set_option maxHeartbeats 400000 in
theorem address_any (a k : Int) (w : World) (ha : 0 ≤ a) (ha2 : a < 4294967296) (hk : 0 ≤ k) (hk2 : k < 4096) :
    Calls Tryd.prog 153 #[.int .i64 a, .int .i64 k] w fun e' w' => e' = .returned (.int .i64 ((a + k) % 128)) ∧ w' = w := by
  go_enter Tryd.func153, Tryd.ntmps153
  go_wp2
  go_ret
  exact ⟨rfl, rfl⟩

set_option maxHeartbeats 400000 in
theorem split_any (v : Int) (w : World) (h0 : 0 ≤ v) (h1 : v < 4294967296) :
    Calls Tryd.prog 119 #[.int .i64 v] w fun e' w' => e' = .returned (.agg #[.int .i64 (fop v), .int .i64 (fa v), .int .i64 (fb v), .int .i64 (fc v), .int .i64 (fk v)]) ∧ Below w.heap.size w w' := by
  have e1 : bits .and .i64 (v / 16777216) 255 = fop v := and255 _ (by omega) (by omega)
  have e2 : bits .and .i64 (v / 1048576) 15 = fa v := and15 _ (by omega) (by omega)
  have e3 : bits .and .i64 (v / 65536) 15 = fb v := and15 _ (by omega) (by omega)
  have e4 : bits .and .i64 (v / 4096) 15 = fc v := and15 _ (by omega) (by omega)
  have e5 : bits .and .i64 v 4095 = fk v := and4095 _ (by omega) (by omega)
  go_enter Tryd.func119, Tryd.ntmps119
  go_wp2
  exact bodyPost_ret (v := .agg #[.int .i64 (fop v), .int .i64 (fa v), .int .i64 (fb v), .int .i64 (fc v), .int .i64 (fk v)]) (by simp [results, Tryd.results119, go_sem]) rfl ⟨rfl, (Below.refl _ _).alloc (Nat.le_refl _) _⟩

set_option maxHeartbeats 400000 in
theorem isWord_any (v : Int) (w : World) :
    Calls Tryd.prog 131 #[.int .i64 v] w fun e' w' => e' = .returned (.bool (isW v)) ∧ w' = w := by
  by_cases h : 0 ≤ v
  · go_enter Tryd.func131, Tryd.ntmps131
    go_wp2
    all_goals
      go_ret
      refine ⟨ret_bool ?_, rfl⟩
      simp [isW, h]
      omega
  · have hd : decide (0 ≤ v) = false := by simpa using h
    go_enter Tryd.func131, Tryd.ntmps131
    go_wp2
    all_goals
      go_ret
      refine ⟨ret_bool ?_, rfl⟩
      simp [isW]
      omega

set_option maxHeartbeats 400000 in
theorem works_any (op x y : Int) (w : World) (hx0 : 0 ≤ x) (hx1 : x < 4294967296) (hy0 : 0 ≤ y) (hy1 : y < 4294967296) (h2 : 2 ≤ op) (h5 : op ≤ 5) :
    Calls Tryd.prog 84 #[.int .i64 op, .int .i64 x, .int .i64 y] w fun e' w' => e' = .returned (.int .i64 (wk op x y)) ∧ w' = w := by
  obtain ⟨b1, b2, b3, b4⟩ := half_bd x y hx0 hx1 hy0 hy1
  have ex := xor_i64 x y hx0 hx1 hy0 hy1
  have hop : op = 2 ∨ op = 3 ∨ op = 4 ∨ op = 5 := by omega
  clear h2 h5
  rcases hop with rfl | rfl | rfl | rfl
  all_goals
    go_enter Tryd.func84, Tryd.ntmps84
    go_wp2
    go_ret
    refine ⟨ret_int ?_, rfl⟩
    first | rfl | (simp only [wk]; exact mul_halves x y)

set_option maxHeartbeats 400000 in
theorem reckon_any (op x y : Int) (w : World) (hx0 : 0 ≤ x) (hx1 : x < 4294967296) (hy0 : 0 ≤ y) (hy1 : y < 4294967296) (h2 : 2 ≤ op) (h5 : op ≤ 5) :
    Calls Tryd.prog 138 #[.int .i64 op, .int .i64 x, .int .i64 y] w fun e' w' => e' = .returned (.int .i64 (wk op x y)) ∧ w' = w := by
  have ex := xor_u32 x y hx0 hx1 hy0 hy1
  obtain ⟨bx, by'⟩ := xorZ_bd x y hx0 hx1 hy0 hy1
  have hop : op = 2 ∨ op = 3 ∨ op = 4 ∨ op = 5 := by omega
  clear h2 h5
  rcases hop with rfl | rfl | rfl | rfl
  all_goals
    go_enter Tryd.func138, Tryd.ntmps138
    go_wp2
    go_ret
    refine ⟨ret_int ?_, rfl⟩
    clear ex
    first | rfl | (show (x - y) % 4294967296 = (x + 4294967296 - y) % 4294967296; omega)

set_option maxHeartbeats 400000 in
theorem field_any (v : Int) (p n : Nat) (w : World) (h0 : 0 ≤ v) (h1 : v < 4294967296) (hp : p ≤ 24) (hn : n ≤ 12) :
    Calls Tryd.prog 122 #[.int .i64 v, .int .i64 p, .int .i64 n] w fun e' w' => e' = .returned (.int .i64 (shr v p % pw n)) ∧ w' = w := by
  go_enter Tryd.func122, Tryd.ntmps122
  go_wp2
  go_loop [0, 7] (fun t i => ∃ j : Nat, j ≤ p ∧ i = .int .i64 j ∧ t = .int .i64 (shr v j)) (fun _ i => p - (intOf i).toNat)
  case atStart => exact ⟨0, Nat.zero_le _, rfl, by rw [shr_zero]⟩
  case round =>
    obtain ⟨j, hj, rfl, rfl⟩ := hrel
    have hb := shr_bd v j h0 h1
    obtain ⟨hb0, hb1⟩ := hb
    have HS : Hid (shr v (j + 1) = shr v j / 2) := shr_succ v j
    by_cases hlt : j < p
    · go_wp2
      go_round
      case rel => exact ⟨j + 1, by omega, by go_num, by rw [HS.out]⟩
      case measure => simp [intOf]; omega
    · have hjp : j = p := by omega
      subst hjp
      clear HS hlt
      go_wp2
      go_loop [8, 9] (fun t i => ∃ j : Nat, j ≤ n ∧ i = .int .i64 j ∧ t = .int .i64 (pw j)) (fun _ i => n - (intOf i).toNat)
      case atStart => exact ⟨0, Nat.zero_le _, rfl, rfl⟩
      case round =>
        obtain ⟨q, hq, rfl, rfl⟩ := hrel
        obtain ⟨hc0, hc1⟩ := pw_bd q (by omega)
        have HT : Hid (pw (q + 1) = pw q * 2) := pw_succ q
        by_cases hlt : q < n
        · go_wp2
          go_round
          case rel => exact ⟨q + 1, by omega, by go_num, by rw [HT.out]⟩
          case measure => simp [intOf]; omega
        · have hqn : q = n := by omega
          subst hqn
          have hne : (pw q == 0) = false := by simp; omega
          go_wp2
          go_ret
          exact ⟨rfl, rfl⟩

set_option maxHeartbeats 400000 in
theorem op_any (v : Int) (w : World) (h0 : 0 ≤ v) (h1 : v < 4294967296) :
    Calls Tryd.prog 79 #[.int .i64 v] w fun e' w' => e' = .returned (.int .i64 (fop v)) ∧ w' = w := by
  go_enter Tryd.func79, Tryd.ntmps79
  go_wp2_with (go_at_call 122; refine (field_any v 24 8 _ h0 h1 (by decide) (by decide)).mono ?_; rintro e w' ⟨rfl, rfl⟩)
  go_ret
  exact ⟨rfl, rfl⟩
theorem a_any (v : Int) (w : World) (h0 : 0 ≤ v) (h1 : v < 4294967296) :
    Calls Tryd.prog 80 #[.int .i64 v] w fun e' w' => e' = .returned (.int .i64 (fa v)) ∧ w' = w := by
  go_enter Tryd.func80, Tryd.ntmps80
  go_wp2_with (go_at_call 122; refine (field_any v 20 4 _ h0 h1 (by decide) (by decide)).mono ?_; rintro e w' ⟨rfl, rfl⟩)
  go_ret
  exact ⟨rfl, rfl⟩
theorem b_any (v : Int) (w : World) (h0 : 0 ≤ v) (h1 : v < 4294967296) :
    Calls Tryd.prog 81 #[.int .i64 v] w fun e' w' => e' = .returned (.int .i64 (fb v)) ∧ w' = w := by
  go_enter Tryd.func81, Tryd.ntmps81
  go_wp2_with (go_at_call 122; refine (field_any v 16 4 _ h0 h1 (by decide) (by decide)).mono ?_; rintro e w' ⟨rfl, rfl⟩)
  go_ret
  exact ⟨rfl, rfl⟩
theorem c_any (v : Int) (w : World) (h0 : 0 ≤ v) (h1 : v < 4294967296) :
    Calls Tryd.prog 83 #[.int .i64 v] w fun e' w' => e' = .returned (.int .i64 (fc v)) ∧ w' = w := by
  go_enter Tryd.func83, Tryd.ntmps83
  go_wp2_with (go_at_call 122; refine (field_any v 12 4 _ h0 h1 (by decide) (by decide)).mono ?_; rintro e w' ⟨rfl, rfl⟩)
  go_ret
  exact ⟨rfl, rfl⟩
theorem k_any (v : Int) (w : World) (h0 : 0 ≤ v) (h1 : v < 4294967296) :
    Calls Tryd.prog 82 #[.int .i64 v] w fun e' w' => e' = .returned (.int .i64 (fk v)) ∧ w' = w := by
  have HK : Hid (fk v = shr v 0 % pw 12) := by rw [shr_zero]; rfl
  go_enter Tryd.func82, Tryd.ntmps82
  go_wp2_with (go_at_call 122; refine (field_any v 0 12 _ h0 h1 (by decide) (by decide)).mono ?_; rintro e w' ⟨rfl, rfl⟩)
  go_ret
  exact ⟨ret_int HK.out.symm, rfl⟩

set_option maxHeartbeats 1000000 in
theorem plain_any (v : Int) (w : World) (h0 : 0 ≤ v) (h1 : v < 4294967296) :
    Calls Tryd.prog 92 #[.int .i64 v] w fun e' w' => e' = .returned (.bool (plB (fop v) (fa v) (fb v) (fc v))) ∧ w' = w := by
  have ho := op_any v w h0 h1
  have ha := a_any v w h0 h1
  have hb := b_any v w h0 h1
  have hc := c_any v w h0 h1
  obtain ⟨o0, o1⟩ := fop_bd v
  obtain ⟨a0, a1⟩ := fa_bd v
  obtain ⟨b0, b1⟩ := fb_bd v
  obtain ⟨c0, c1⟩ := fc_bd v
  generalize fop v = op at *
  generalize fa v = a at *
  generalize fb v = b at *
  generalize fc v = c at *
  have H1 := hide ho; have H2 := hide ha; have H3 := hide hb; have H4 := hide hc
  clear ho ha hb hc
  go_enter Tryd.func92, Tryd.ntmps92
  go_wp2_with (first | (go_at_call 79; refine (unhide H1).mono ?_; rintro e w' ⟨rfl, rfl⟩) | (go_at_call 80; refine (unhide H2).mono ?_; rintro e w' ⟨rfl, rfl⟩) | (go_at_call 81; refine (unhide H3).mono ?_; rintro e w' ⟨rfl, rfl⟩) | (go_at_call 83; refine (unhide H4).mono ?_; rintro e w' ⟨rfl, rfl⟩))
  all_goals
    go_ret
    refine ⟨ret_bool ?_, rfl⟩
    go_light
    try simp only [beq_iff_eq, beq_eq_false_iff_ne, ne_eq] at *
    clear H1 H2 H3 H4
    unfold plB
    first | (rw [if_pos (by omega)]) | (rw [if_neg (by omega), if_pos (by omega)]) | (rw [if_neg (by omega), if_neg (by omega), if_pos (by omega)]) | (rw [if_neg (by omega), if_neg (by omega), if_neg (by omega)])
    try (first | (symm; rw [decide_eq_true_eq]; omega) | (symm; rw [decide_eq_false_iff_not]; omega) | (rw [decide_eq_decide]; omega))

set_option maxHeartbeats 1000000 in
theorem known_any (v : Int) (w : World) (h0 : 0 ≤ v) (h1 : v < 4294967296) :
    Calls Tryd.prog 78 #[.int .i64 v] w fun e' w' => e' = .returned (.bool (knB (fop v) (fa v) (fb v) (fc v))) ∧ w' = w := by
  have hp := plain_any v w h0 h1
  have ho := op_any v w h0 h1
  have ha := a_any v w h0 h1
  have hb := b_any v w h0 h1
  obtain ⟨o0, o1⟩ := fop_bd v
  obtain ⟨a0, a1⟩ := fa_bd v
  obtain ⟨b0, b1⟩ := fb_bd v
  obtain ⟨c0, c1⟩ := fc_bd v
  generalize fop v = op at *
  generalize fa v = a at *
  generalize fb v = b at *
  generalize fc v = c at *
  have H1 := hide ho; have H2 := hide ha; have H3 := hide hb; have H4 := hide hp
  clear ho ha hb hp
  go_enter Tryd.func78, Tryd.ntmps78
  go_wp2_with (first | (go_at_call 92; refine (unhide H4).mono ?_; rintro e w' ⟨rfl, rfl⟩) | (go_at_call 79; refine (unhide H1).mono ?_; rintro e w' ⟨rfl, rfl⟩) | (go_at_call 80; refine (unhide H2).mono ?_; rintro e w' ⟨rfl, rfl⟩) | (go_at_call 81; refine (unhide H3).mono ?_; rintro e w' ⟨rfl, rfl⟩))
  all_goals
    go_ret
    refine ⟨ret_bool ?_, rfl⟩
    go_light
    try simp only [beq_iff_eq, beq_eq_false_iff_ne, ne_eq] at *
    clear H1 H2 H3 H4
    first | (exact kn_pl op a b c (by omega) (by omega) (by omega) (by omega) (by omega)) | unfold knB
    all_goals first | (rw [if_pos (by omega)]) | (rw [if_neg (by omega), if_pos (by omega)]) | (rw [if_neg (by omega), if_neg (by omega), if_pos (by omega)]) | (rw [if_neg (by omega), if_neg (by omega), if_neg (by omega), if_pos (by omega)])
    all_goals try (first | (symm; rw [decide_eq_true_eq]; omega) | (symm; rw [decide_eq_false_iff_not]; omega) | (rw [decide_eq_decide]; omega))
end Go.Proofs.YtmmflekajbeamaaDoor

namespace Go.Proofs.YtmmflekajbeamaaDoor
open Go.RowKit

set_option maxHeartbeats 400000 in
theorem areWords_any (b off n : Nat) (f : Nat → Int) (w : World) (hn : n ≤ 128) (hc : ∀ i, i < n → w.cell? ⟨b, off + i, none⟩ = some (.int .i64 (f i))) :
    Calls Tryd.prog 95 #[.slice (some ⟨b, off, none⟩) n n] w fun e' w' => e' = .returned (.bool (allW f n)) ∧ w' = w := by
  have HC := hide hc
  clear hc
  go_enter Tryd.func95, Tryd.ntmps95
  go_wp2
  go_loop [7] (fun i => ∃ j : Nat, j ≤ n ∧ i = .int .i64 j ∧ Hid (allW f j = true)) (fun i => n - (intOf i).toNat)
  case atStart => exact ⟨0, Nat.zero_le _, rfl, allW_zero f⟩
  case round =>
    obtain ⟨j, hj, rfl, HJ⟩ := hrel
    by_cases hlt : j < n
    · have hcj := unhide HC j hlt
      have hw := isWord_any (f j) w
      have HS := hide (allW_succ f j)
      cases hq : isW (f j)
      · have HF := hide (allW_false f n j hlt hq)
        rw [hq] at hw
        have HW := hide hw
        clear hw hq HS
        go_wp2_with (go_at_call 131; refine (unhide HW).mono ?_; rintro e w' ⟨rfl, rfl⟩)
        go_ret
        exact ⟨ret_bool HF.out.symm, rfl⟩
      · rw [hq] at hw HS
        have HW := hide hw
        clear hw hq
        go_wp2_with (go_at_call 131; refine (unhide HW).mono ?_; rintro e w' ⟨rfl, rfl⟩)
        go_round
        case rel => exact ⟨j + 1, by omega, by go_num, by rw [HS.out, HJ.out]; rfl⟩
        case measure => simp [intOf]; omega
    · have hjn : j = n := by omega
      subst hjn
      go_wp2
      go_ret
      exact ⟨ret_bool HJ.out.symm, rfl⟩

theorem st_regs {z : List Int} (h : allW (fun i => gz z i) 8 = false) : stB z = false := by have h' : regsB z = false := h; simp [stB, h']
theorem st_mem {z : List Int} (h : allW (fun i => gz z (8 + i)) 128 = false) : stB z = false := by have h' : memB z = false := h; simp [stB, h']
theorem ofPc {z : List Int} (hr : regsB z = true) (hm : memB z = true) (b : Bool) (h : b = pcB z) : b = stB z := by simp [stB, hr, hm, h]

set_option maxHeartbeats 1000000 in
theorem isState_any (z : List Int) (w : World) (hl : z.length = 138) :
    Calls Tryd.prog 118 #[.agg (S z)] w fun e' w' => e' = .returned (.bool (stB z)) ∧ Below w.heap.size w w' := by
  have hx : ∀ i, i < 138 → (S z)[i]? = some (.int .i64 (gz z i)) := fun i hi => S_get z i (by omega)
  have h136 := hx 136 (by omega)
  have h137 := hx 137 (by omega)
  have hcell : ∀ i, i < 138 → (w.alloc (.cells (S z) 34)).cell? ⟨w.heap.size, i, none⟩ = some (.int .i64 (gz z i)) := fun i hi => by
    rw [World.cell?_alloc_at (hn := rfl)]; exact hx i hi
  have H1 := hide (areWords_any w.heap.size 0 8 (fun i => gz z i) (w.alloc (.cells (S z) 34)) (by omega) (fun i hi => by rw [Nat.zero_add]; exact hcell i (by omega)))
  have H2 := hide (areWords_any w.heap.size 8 128 (fun i => gz z (8 + i)) (w.alloc (.cells (S z) 34)) (by omega) (fun i hi => hcell (8 + i) (by omega)))
  have hb : Below w.heap.size w (w.alloc (.cells (S z) 34)) := (Below.refl _ _).alloc (Nat.le_refl _) _
  have HB := hide hb
  clear hx hcell hb
  cases hr : regsB z
  · have HF : Hid (stB z = false) := by simp [Hid, stB, hr]
    have e1 : allW (fun i => gz z i) 8 = false := hr
    rw [e1] at H1
    clear hr e1 H2
    go_enter Tryd.func118, Tryd.ntmps118
    go_wp2_with fail
    refine (unhide H1).mono ?_
    rintro e w' ⟨rfl, rfl⟩
    go_wp2
    go_ret
    exact ⟨ret_bool HF.out.symm, HB.out⟩
  · have e1 : allW (fun i => gz z i) 8 = true := hr
    rw [e1] at H1
    clear e1
    cases hm : memB z
    · have HF : Hid (stB z = false) := by simp [Hid, stB, hm]
      have e2 : allW (fun i => gz z (8 + i)) 128 = false := hm
      rw [e2] at H2
      clear hm hr e2
      go_enter Tryd.func118, Tryd.ntmps118
      go_wp2_with fail
      refine (unhide H1).mono ?_
      rintro e w' ⟨rfl, rfl⟩
      go_wp2_with fail
      refine (unhide H2).mono ?_
      rintro e w' ⟨rfl, rfl⟩
      go_wp2
      go_ret
      exact ⟨ret_bool HF.out.symm, HB.out⟩
    · have HF := hide (ofPc hr hm)
      have e2 : allW (fun i => gz z (8 + i)) 128 = true := hm
      rw [e2] at H2
      clear hm hr e2
      go_enter Tryd.func118, Tryd.ntmps118
      go_wp2_with fail
      refine (unhide H1).mono ?_
      rintro e w' ⟨rfl, rfl⟩
      go_wp2_with fail
      refine (unhide H2).mono ?_
      rintro e w' ⟨rfl, rfl⟩
      go_wp2
      all_goals
        go_ret
        refine ⟨ret_bool (HF.out _ ?_), HB.out⟩
        go_light
        clear H1 H2 HB HF h136 h137
        unfold pcB
        first | (symm; rw [decide_eq_true_eq]; omega) | (symm; rw [decide_eq_false_iff_not]; omega) | (rw [decide_eq_decide]; omega)

set_option maxRecDepth 100000 in
set_option maxHeartbeats 1000000 in
theorem right_any (z : List Int) (w : World) (hl : z.length = 138) :
    Calls Tryd.prog 77 #[.agg (S z)] w fun e' w' => e' = .returned (.bool (stB z)) ∧ Below w.heap.size w w' := by
  have hx : ∀ i, i < 138 → (S z)[i]? = some (.int .i64 (gz z i)) := fun i hi => S_get z i (by omega)
  have h136 := hx 136 (by omega)
  have h137 := hx 137 (by omega)
  have HX := hide hx
  have HB : Hid (Below w.heap.size w (w.alloc (.cells (S z) 34))) := (Below.refl _ _).alloc (Nat.le_refl _) _
  clear hx
  go_enter Tryd.func77, Tryd.ntmps77
  go_wp2
  go_loop [3] (fun i => ∃ j : Nat, j ≤ 8 ∧ i = .int .i64 j ∧ Hid (allW (fun i => gz z i) j = true)) (fun i => 8 - (intOf i).toNat)
  case atStart => exact ⟨0, Nat.zero_le _, rfl, allW_zero _⟩
  case round =>
    obtain ⟨j, hj, rfl, HJ⟩ := hrel
    by_cases hlt : j < 8
    · have hcj := unhide HX (j) (by omega)
      by_cases hq : isW (gz z (j)) = true
      · obtain ⟨q0, q1⟩ := (isW_iff _).1 hq
        have HN : Hid (allW (fun i => gz z i) (j + 1) = true) := by rw [Hid, allW_succ, HJ.out]; exact hq
        clear hq
        go_wp2
        go_round
        case rel => exact ⟨j + 1, by omega, by go_num, HN⟩
        case measure => simp [intOf]; omega
      · have HF : Hid (stB z = false) := st_regs (allW_false (fun i => gz z i) 8 j hlt (by simpa using hq))
        have hq' : gz z (j) < 0 ∨ 4294967296 ≤ gz z (j) := by
          rw [isW_iff] at hq; omega
        clear hq
        rcases hq' with hq' | hq'
        · go_wp2
          go_ret
          exact ⟨ret_bool HF.out.symm, HB.out⟩
        · have hq2 : 0 ≤ gz z (j) := by omega
          go_wp2
          go_ret
          exact ⟨ret_bool HF.out.symm, HB.out⟩
    · have hjn : j = 8 := by omega
      subst hjn
      have HR : Hid (regsB z = true) := HJ
      clear HJ hlt hj
      go_wp2
      go_loop [4] (fun i => ∃ j : Nat, j ≤ 128 ∧ i = .int .i64 j ∧ Hid (allW (fun i => gz z (8 + i)) j = true)) (fun i => 128 - (intOf i).toNat)
      case atStart => exact ⟨0, Nat.zero_le _, rfl, allW_zero _⟩
      case round =>
        obtain ⟨j, hj, rfl, HJ⟩ := hrel
        by_cases hlt : j < 128
        · have hcj := unhide HX (8 + j) (by omega)
          by_cases hq : isW (gz z (8 + j)) = true
          · obtain ⟨q0, q1⟩ := (isW_iff _).1 hq
            have HN : Hid (allW (fun i => gz z (8 + i)) (j + 1) = true) := by rw [Hid, allW_succ, HJ.out]; exact hq
            clear hq
            go_wp2
            go_round
            case rel => exact ⟨j + 1, by omega, by go_num, HN⟩
            case measure => simp [intOf]; omega
          · have HF : Hid (stB z = false) := st_mem (allW_false (fun i => gz z (8 + i)) 128 j hlt (by simpa using hq))
            have hq' : gz z (8 + j) < 0 ∨ 4294967296 ≤ gz z (8 + j) := by
              rw [isW_iff] at hq; omega
            clear hq
            rcases hq' with hq' | hq'
            · go_wp2
              go_ret
              exact ⟨ret_bool HF.out.symm, HB.out⟩
            · have hq2 : 0 ≤ gz z (8 + j) := by omega
              go_wp2
              go_ret
              exact ⟨ret_bool HF.out.symm, HB.out⟩
        · have hjn : j = 128 := by omega
          subst hjn
          have HM := hide (ofPc HR.out (show memB z = true from HJ.out))
          clear HJ hlt hj HR
          go_wp2
          all_goals
            go_ret
            refine ⟨ret_bool (HM.out _ ?_), HB.out⟩
            go_light
            clear HM HB h136 h137 HX
            unfold pcB
            first | (symm; rw [decide_eq_true_eq]; omega) | (symm; rw [decide_eq_false_iff_not]; omega) | (rw [decide_eq_decide]; omega)
end Go.Proofs.YtmmflekajbeamaaDoor
