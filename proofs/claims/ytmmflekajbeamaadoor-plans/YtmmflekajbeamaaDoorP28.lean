/-
  Sound, as plain mathematics: what plain words do to a state, step by step, is what their puts do to the registers.
  A state that is built out of its parts.
-/
import Derived.Test.YtmmflekajbeamaaDoorP27
import Derived.Test.YtmmflekajbeamaaDoorP05
import Derived.Laws.Tables
namespace Go.Proofs.YtmmflekajbeamaaDoor

/-- A state out of its parts. -/
def mkZ (regs mem : List Int) (pc st : Int) : List Int := regs ++ (mem ++ [pc, st])
theorem getD_appR {α : Type} {l x : List α} {i : Nat} (z : α) (h : l.length ≤ i) : (l ++ x).getD i z = x.getD (i - l.length) z := by
  rw [List.getD_eq_getElem?_getD, List.getD_eq_getElem?_getD, List.getElem?_append_right h]
section
variable {regs mem : List Int} {pc st : Int}
theorem mkZ_len (hr : regs.length = 8) (hm : mem.length = 128) : (mkZ regs mem pc st).length = 138 := by simp [mkZ, hr, hm]
theorem mkZ_pc (hr : regs.length = 8) (hm : mem.length = 128) : gz (mkZ regs mem pc st) 136 = pc := by
  unfold gz mkZ
  rw [getD_appR _ (by omega), hr, getD_appR _ (by omega), hm]; rfl
theorem mkZ_st (hr : regs.length = 8) (hm : mem.length = 128) : gz (mkZ regs mem pc st) 137 = st := by
  unfold gz mkZ
  rw [getD_appR _ (by omega), hr, getD_appR _ (by omega), hm]; rfl
theorem mkZ_set_pc (hr : regs.length = 8) (hm : mem.length = 128) (v : Int) : (mkZ regs mem pc st).set 136 v = mkZ regs mem v st := by
  unfold mkZ
  rw [List.set_append_right _ _ (by omega), hr, List.set_append_right _ _ (by omega), hm]; rfl
theorem mkZ_set_st (hr : regs.length = 8) (hm : mem.length = 128) (v : Int) : (mkZ regs mem pc st).set 137 v = mkZ regs mem pc v := by
  unfold mkZ
  rw [List.set_append_right _ _ (by omega), hr, List.set_append_right _ _ (by omega), hm]; rfl
end
theorem mkZ_reg {regs mem : List Int} {pc st : Int} (hr : regs.length = 8) {i : Nat} (hi : i < 8) : gz (mkZ regs mem pc st) i = regs.getD i 0 := by
  unfold gz mkZ
  rw [getD_app _ _ (by omega)]
theorem mkZ_mem {regs mem : List Int} {pc st : Int} (hr : regs.length = 8) (hm : mem.length = 128) {i : Nat} (hi : i < 128) : gz (mkZ regs mem pc st) (8 + i) = mem.getD i 0 := by
  unfold gz mkZ
  rw [getD_appR _ (by omega), hr, Nat.add_sub_cancel_left, getD_app _ _ (by omega)]
theorem mkZ_set_reg {regs mem : List Int} {pc st : Int} (hr : regs.length = 8) {i : Nat} (hi : i < 8) (v : Int) : (mkZ regs mem pc st).set i v = mkZ (regs.set i v) mem pc st := by
  unfold mkZ
  rw [List.set_append_left _ _ (by omega)]
theorem z_mk {z : List Int} (h : z.length = 138) : z = mkZ (z.take 8) ((z.drop 8).take 128) (gz z 136) (gz z 137) := by
  unfold mkZ
  have e1 : z = z.take 8 ++ z.drop 8 := (List.take_append_drop 8 z).symm
  have e2 : z.drop 8 = (z.drop 8).take 128 ++ (z.drop 8).drop 128 := (List.take_append_drop 128 _).symm
  have e3 : (z.drop 8).drop 128 = [gz z 136, gz z 137] := by
    rw [List.drop_drop, List.drop_eq_getElem_cons (by omega), List.drop_eq_getElem_cons (by omega), List.drop_of_length_le (by omega)]
    unfold gz
    rw [List.getD_eq_getElem?_getD, List.getD_eq_getElem?_getD, List.getElem?_eq_getElem (by omega), List.getElem?_eq_getElem (by omega)]
    rfl
  rw [← e3, ← e2, ← e1]
theorem mkZ_stB {regs mem : List Int} {pc st : Int} (hr : WL 8 regs) (hm : WL 128 mem) (p0 : 0 ≤ pc) (p1 : pc < 128) (s0 : 0 ≤ st) (s1 : st ≤ 2) : stB (mkZ regs mem pc st) = true := by
  unfold stB regsB memB pcB
  rw [mkZ_pc hr.1 hm.1, mkZ_st hr.1 hm.1]
  simp only [Bool.and_eq_true, List.all_eq_true, List.mem_range, decide_eq_true_eq]
  refine ⟨⟨fun i hi => ?_, fun i hi => ?_⟩, p0, p1, s0, s1⟩
  · rw [mkZ_reg hr.1 hi]; exact (isW_iff _).2 (hr.at hi)
  · rw [mkZ_mem hr.1 hm.1 hi]; exact (isW_iff _).2 (hm.at hi)
theorem stB_parts {z : List Int} (h : stB z = true) (hl : z.length = 138) : WL 8 (z.take 8) ∧ WL 128 ((z.drop 8).take 128) := by
  refine ⟨⟨by simp [hl], fun x hx => ?_⟩, ⟨by simp [hl], fun x hx => ?_⟩⟩
  · obtain ⟨i, hi⟩ := List.getElem?_of_mem hx
    rw [List.getElem?_take] at hi
    split at hi
    · rename_i h8
      have := stB_reg h i (by omega)
      unfold gz at this
      rw [List.getD_eq_getElem?_getD, hi] at this
      exact this
    · cases hi
  · obtain ⟨i, hi⟩ := List.getElem?_of_mem hx
    rw [List.getElem?_take] at hi
    split at hi
    · rename_i h8
      rw [List.getElem?_drop] at hi
      have := stB_reg h (8 + i) (by omega)
      unfold gz at this
      rw [List.getD_eq_getElem?_getD, hi] at this
      exact this
    · cases hi
/-- A put on registers alone. -/
def rD (mem regs : List Int) (p : PutN) : List Int := regs.set p.d (vD regs mem p)
theorem vD_app {mem regs : List Int} (t : List Int) (hr : regs.length = 8) {p : PutN} (hp : okB p) : vD (regs ++ t) mem p = vD regs mem p := by
  obtain ⟨_, _, d8, a8, b8, _, _⟩ := hp
  unfold vD
  rw [getD_app _ _ (by omega), getD_app _ _ (by omega)]
theorem stD_app {mem regs : List Int} (t : List Int) (hr : regs.length = 8) {p : PutN} (hp : okB p) : stD mem (regs ++ t) p = rD mem regs p ++ t := by
  unfold stD rD
  rw [vD_app t hr hp, List.set_append_left _ _ (by rw [hr]; exact hp.2.2.1)]
theorem rD_len (mem regs : List Int) (p : PutN) : (rD mem regs p).length = regs.length := by simp [rD]
theorem doL_app {mem : List Int} (t : List Int) : ∀ (ps : List PutN) {regs : List Int}, regs.length = 8 → (∀ p ∈ ps, okB p) → doL mem ps (regs ++ t) = ps.foldl (rD mem) regs ++ t := by
  intro ps
  induction ps with
  | nil => intro regs _ _; rfl
  | cons p ps ih =>
    intro regs hr hp
    show doL mem ps (stD mem (regs ++ t) p) = _
    rw [stD_app t hr (hp p List.mem_cons_self), ih (by rw [rD_len, hr]) (fun q hq => hp q (List.mem_cons_of_mem _ hq))]
    rfl
theorem rDs_len {mem : List Int} (ps : List PutN) : ∀ regs : List Int, (ps.foldl (rD mem) regs).length = regs.length := by
  induction ps with
  | nil => intro regs; rfl
  | cons p ps ih => intro regs; rw [List.foldl_cons, ih, rD_len]
theorem doL_regs {mem regs : List Int} {ps : List PutN} (hr : regs.length = 8) (hp : ∀ p ∈ ps, okB p) : (doL mem ps (begD regs)).take 8 = ps.foldl (rD mem) regs := by
  unfold begD
  rw [doL_app _ ps hr hp, List.take_append_of_le_length (by rw [rDs_len, hr]; exact Nat.le_refl _), List.take_of_length_le (by rw [rDs_len, hr]; exact Nat.le_refl _)]
theorem rD_WL {mem regs : List Int} (hr : WL 8 regs) (hm : WL 128 mem) {p : PutN} (hp : okB p) : WL 8 (rD mem regs p) := by
  refine ⟨by rw [rD_len, hr.1], fun x hx => ?_⟩
  rcases List.mem_or_eq_of_mem_set hx with hx | rfl
  · exact hr.2 x hx
  · have := (WL.beg hr).vD hm hp.2.2.2.2.2.2 hp.2.2.2.2.2.1
    unfold begD at this
    rw [vD_app _ hr.1 hp] at this
    exact this
theorem putW_okB {v : Int} (h : plW v = true) : okB (putW v) := by
  obtain ⟨h1, h2, h3, h4, h5, h6, h7⟩ := putW_ok h
  exact ⟨h6, h7, h2, h3, h4, by omega, h1⟩
/-- A plain word's step. -/
theorem stp_plain {regs mem : List Int} {pc : Nat} (hr : WL 8 regs) (hm : WL 128 mem) (hp : pc < 128) (hpl : plW (mem.getD pc 0) = true) :
    stp (mkZ regs mem pc 0) = (mkZ (rD mem regs (putW (mem.getD pc 0))) mem (((pc : Int) + 1) % 128) 0, 0) := by
  have hs := mkZ_stB (st := 0) hr hm (by omega : (0 : Int) ≤ pc) (by omega) (Int.le_refl 0) (by decide)
  have hw : wordZ (mkZ regs mem pc 0) = mem.getD pc 0 := by
    unfold wordZ
    rw [mkZ_pc hr.1 hm.1, Int.toNat_natCast, mkZ_mem hr.1 hm.1 hp]
  obtain ⟨ha, hc⟩ := plB_cases hpl
  have hk := putW_okB hpl
  have hkn : knZ (mkZ regs mem pc 0) = true := by
    unfold knZ
    rw [hw]
    unfold plW at hpl
    rw [← kn_pl _ _ _ _ (by omega) (by omega) (by omega) (by omega) (by omega)]
    exact hpl
  unfold stp
  rw [if_neg (by rw [hs]; decide), if_neg (by rw [mkZ_st hr.1 hm.1]; simp), if_neg (by rw [hkn]; decide), hw]
  rw [Prod.mk.injEq]
  refine ⟨?_, rfl⟩
  generalize mem.getD pc 0 = v at *
  have b1 := fa_bd v; have b2 := fb_bd v; have b3 := fc_bd v; have b4 := fk_bd v
  have rl := hr.1
  unfold nxt
  rw [mkZ_pc hr.1 hm.1]
  rcases hc with h1 | ⟨h2, h5, hb, hcc⟩ | ⟨h6, hb⟩
  · rw [if_neg (by omega), if_pos h1, mkZ_set_reg rl (by omega), mkZ_set_pc (by simp [rl]) hm.1]
    have e : putW v = ⟨1, (fa v).toNat, 0, 0, (fk v).toNat⟩ := by unfold putW; rw [if_pos h1]
    rw [e]
    unfold rD vD
    dsimp only
    rw [if_pos rfl, show (((fk v).toNat : Nat) : Int) = fk v by omega]
  · rw [if_neg (by omega), if_neg (by omega), if_pos ⟨h2, h5⟩, mkZ_reg rl (by omega), mkZ_reg rl (by omega), mkZ_set_reg rl (by omega), mkZ_set_pc (by simp [rl]) hm.1]
    have e : putW v = ⟨(fop v).toNat, (fa v).toNat, (fb v).toNat, (fc v).toNat, 0⟩ := by unfold putW; rw [if_neg (by omega), if_neg (by omega)]
    rw [e]
    unfold rD vD
    dsimp only
    rw [if_neg (by omega), if_neg (by omega), if_neg (by omega), show (((fop v).toNat : Nat) : Int) = fop v by omega]
  · rw [if_neg (by omega), if_neg (by omega), if_neg (by omega), if_pos h6, mkZ_mem rl hm.1 (by omega), mkZ_reg (i := (fb v).toNat) rl (by omega), mkZ_set_reg rl (by omega), mkZ_set_pc (by simp [rl]) hm.1]
    have e : putW v = ⟨6, (fa v).toNat, (fb v).toNat, 0, (fk v).toNat⟩ := by unfold putW; rw [if_neg (by omega), if_pos h6]
    rw [e]
    unfold rD vD
    dsimp only
    rw [if_neg (by decide), if_pos rfl, show (((fk v).toNat : Nat) : Int) = fk v by omega]
end Go.Proofs.YtmmflekajbeamaaDoor

namespace Go.Proofs.YtmmflekajbeamaaDoor
open Go.RowKit

theorem fold_put (off : Nat) : ∀ (l : List Value) (i : Nat) (cs : Array Value), off + i + l.length ≤ cs.size → ((l.zipIdx i).foldl (fun cs x => cs.setIfInBounds (off + x.2) x.1) cs).size = cs.size ∧ ∀ j : Nat, ((l.zipIdx i).foldl (fun cs x => cs.setIfInBounds (off + x.2) x.1) cs)[j]? = if off + i ≤ j ∧ j < off + i + l.length then l[j - (off + i)]? else cs[j]? := by
  intro l
  induction l with
  | nil => intro i cs _; exact ⟨rfl, fun j => by rw [if_neg (by simp only [List.length_nil]; omega)]; rfl⟩
  | cons v l ih =>
    intro i cs h
    rw [List.length_cons] at h
    obtain ⟨h1, h2⟩ := ih (i + 1) (cs.setIfInBounds (off + i) v) (by rw [Array.size_setIfInBounds]; omega)
    rw [List.zipIdx_cons, List.foldl_cons]
    refine ⟨by rw [h1, Array.size_setIfInBounds], fun j => ?_⟩
    rw [h2, List.length_cons]
    by_cases hj : j = off + i
    · subst hj
      rw [if_neg (by omega), if_pos (by omega), Nat.sub_self, Array.getElem?_setIfInBounds, if_pos rfl, if_pos (by omega)]
      rfl
    · by_cases hj2 : off + (i + 1) ≤ j ∧ j < off + (i + 1) + l.length
      · rw [if_pos hj2, if_pos (by omega), show j - (off + i) = (j - (off + (i + 1))) + 1 by omega, List.getElem?_cons_succ]
      · rw [if_neg hj2, if_neg (by omega), Array.getElem?_setIfInBounds, if_neg (fun e => hj e.symm)]
/-- The cells of v laid into cs from off on. -/
def layA (off : Nat) (v cs : Array Value) : Array Value := v.zipIdx.foldl (fun cs x => cs.setIfInBounds (off + x.2) x.1) cs
theorem layA_eq (off : Nat) (v cs : Array Value) : layA off v cs = (v.toList.zipIdx 0).foldl (fun cs x => cs.setIfInBounds (off + x.2) x.1) cs := by
  unfold layA
  rw [← Array.foldl_toList, Array.toList_zipIdx]
theorem layA_size (off : Nat) (v cs : Array Value) (h : off + v.size ≤ cs.size) : (layA off v cs).size = cs.size := by
  rw [layA_eq]
  exact (fold_put off v.toList 0 cs (by simpa using h)).1
theorem layA_get (off : Nat) (v cs : Array Value) (h : off + v.size ≤ cs.size) (j : Nat) : (layA off v cs)[j]? = if off ≤ j ∧ j < off + v.size then v[j - off]? else cs[j]? := by
  rw [layA_eq, (fold_put off v.toList 0 cs (by simpa using h)).2 j]
  simp
set_option maxRecDepth 100000 in
theorem places34 : (match Tryd.prog.underlying 34 with | some (.struct fs) => fs.toList.mapM (fun f => (Tryd.prog.info? f.type).map fun i => (f.offset, i.size)) | _ => none) = some [(0, 8), (8, 128), (136, 1), (137, 1)] := by kernel_rfl
theorem info34 : ∃ i, Tryd.prog.info? 34 = some i ∧ i.zero = some (.agg (S zeroZ)) := by
  have h : (Tryd.prog.info? 34).map (fun i => i.zero) = some (some (.agg (S zeroZ))) := by kernel_rfl
  cases hq : Tryd.prog.info? 34 with
  | none => rw [hq] at h; cases h
  | some i =>
    rw [hq] at h
    simp only [Option.map_some, Option.some.injEq] at h
    exact ⟨i, rfl, h⟩
set_option maxRecDepth 100000 in
theorem built34 (parts : List (Nat × Value)) : Tryd.prog.built 34 parts = Instr.fill (fun x => #[((0 : Nat), (8 : Nat)), (8, 128), (136, 1), (137, 1)][x]?) (S zeroZ) parts := by
  obtain ⟨i, hi, hz⟩ := info34
  have hp := places34
  unfold Program.built
  rw [hi]
  rw [Tryd.underlying34] at hp ⊢
  simp only [hz] at hp ⊢
  rw [hp]
  rfl
theorem zz_get (j : Nat) (h : j < 138) : (S zeroZ)[j]? = some (.int .i64 0) := by
  have := S_get zeroZ j (by simpa [zeroZ] using h)
  rw [this]
  unfold gz zeroZ
  rw [List.getD_eq_getElem?_getD, List.getElem?_replicate, if_pos h]; rfl
theorem zz_size : (S zeroZ).size = 138 := by rw [S_size]; simp [zeroZ]
theorem S_ext {z : List Int} {a : Array Value} (hl : z.length = a.size) (h : ∀ j, j < z.length → a[j]? = some (.int .i64 (gz z j))) : a = S z := by
  apply Array.ext_getElem?
  intro j
  by_cases hj : j < z.length
  · rw [h j hj, S_get z j hj]
  · rw [Array.getElem?_eq_none (by omega), Array.getElem?_eq_none (by rw [S_size]; omega)]
theorem fill_two (p q : Nat) (a b : Array Value) (o1 s1 o2 s2 : Nat) (hp : #[((0 : Nat), (8 : Nat)), (8, 128), (136, 1), (137, 1)][p]? = some (o1, s1)) (hq : #[((0 : Nat), (8 : Nat)), (8, 128), (136, 1), (137, 1)][q]? = some (o2, s2)) (v u : Value) (hv : v.cells = a) (hu : u.cells = b) (ha : a.size = s1) (hb : b.size = s2) (h1 : o1 + s1 ≤ 138) (h2 : o2 + s2 ≤ 138) :
    Instr.fill (fun x => #[((0 : Nat), (8 : Nat)), (8, 128), (136, 1), (137, 1)][x]?) (S zeroZ) [(p, v), (q, u)] = some (layA o2 b (layA o1 a (S zeroZ))) := by
  simp only [Instr.fill, hp, hq, hv, hu]
  rw [if_neg (by simp [ha, zz_size]; omega)]
  have hs : (Array.foldl (fun cs x => cs.setIfInBounds (o1 + x.2) x.1) (S zeroZ) a.zipIdx).size = 138 := by
    have := layA_size o1 a (S zeroZ) (by rw [zz_size]; omega)
    rw [zz_size] at this
    exact this
  rw [if_neg (by rw [hb, hs]; simp; omega)]
  rfl
/-- api.State{Regs: regs, Mem: mem}. -/
theorem build_rm (regs mem : List Int) (hr : regs.length = 8) (hm : mem.length = 128) (w : World) : (Instr.build 34 #[(0, .agg (S regs)), (1, .agg (S mem))]).run Tryd.prog w = .ok (.agg (S (mkZ regs mem 0 0))) w := by
  refine run_build w 34 _ _ ?_
  have z1 : (S regs).size = 8 := by rw [S_size, hr]
  have z2 : (S mem).size = 128 := by rw [S_size, hm]
  rw [built34, fill_two 0 1 (S regs) (S mem) 0 8 8 128 rfl rfl _ _ rfl rfl z1 z2 (by decide) (by decide)]
  congr 1
  have hs1 := layA_size 0 (S regs) (S zeroZ) (by rw [z1, zz_size]; decide)
  rw [zz_size] at hs1
  refine S_ext (by rw [mkZ_len hr hm, layA_size _ _ _ (by rw [hs1, z2]; decide), hs1]) (fun j hj => ?_)
  rw [mkZ_len hr hm] at hj
  rw [layA_get _ _ _ (by rw [hs1, z2]; decide), z2]
  by_cases h8 : j < 8
  · rw [if_neg (by omega), layA_get _ _ _ (by rw [z1, zz_size]; decide), z1, if_pos (by omega), mkZ_reg hr h8, Nat.sub_zero, S_get regs j (by omega)]; rfl
  · by_cases h136 : j < 136
    · rw [if_pos (by omega), S_get mem (j - 8) (by omega)]
      have := mkZ_mem (pc := 0) (st := 0) hr hm (i := j - 8) (by omega)
      rw [show 8 + (j - 8) = j by omega] at this
      rw [this]; rfl
    · rw [if_neg (by omega), layA_get _ _ _ (by rw [z1, zz_size]; decide), z1, if_neg (by omega), zz_get j hj]
      by_cases h137 : j = 136
      · rw [h137, mkZ_pc hr hm]
      · rw [show j = 137 by omega, mkZ_st hr hm]
/-- api.State{Mem: mem, Pc: pc}. -/
theorem build_mp (mem : List Int) (pc : Int) (hm : mem.length = 128) (w : World) : (Instr.build 34 #[(1, .agg (S mem)), (2, .int .i64 pc)]).run Tryd.prog w = .ok (.agg (S (mkZ (List.replicate 8 0) mem pc 0))) w := by
  refine run_build w 34 _ _ ?_
  have hr : (List.replicate 8 (0 : Int)).length = 8 := by simp
  have z2 : (S mem).size = 128 := by rw [S_size, hm]
  rw [built34, fill_two 1 2 (S mem) #[.int .i64 pc] 8 128 136 1 rfl rfl _ _ rfl rfl z2 rfl (by decide) (by decide)]
  congr 1
  have hs1 := layA_size 8 (S mem) (S zeroZ) (by rw [z2, zz_size]; decide)
  rw [zz_size] at hs1
  refine S_ext (by rw [mkZ_len hr hm, layA_size _ _ _ (by rw [hs1]; exact Nat.le_of_ble_eq_true rfl), hs1]) (fun j hj => ?_)
  rw [mkZ_len hr hm] at hj
  rw [layA_get _ _ _ (by rw [hs1]; exact Nat.le_of_ble_eq_true rfl)]
  by_cases h8 : j < 8
  · rw [if_neg (by simp; omega), layA_get _ _ _ (by rw [z2, zz_size]; decide), z2, if_neg (by omega), zz_get j hj, mkZ_reg hr h8, List.getD_eq_getElem?_getD, List.getElem?_replicate, if_pos h8]; rfl
  · by_cases h136 : j < 136
    · rw [if_neg (by simp; omega), layA_get _ _ _ (by rw [z2, zz_size]; decide), z2, if_pos (by omega), S_get mem (j - 8) (by omega)]
      have := mkZ_mem (pc := pc) (st := 0) hr hm (i := j - 8) (by omega)
      rw [show 8 + (j - 8) = j by omega] at this
      rw [this]; rfl
    · by_cases h137 : j = 136
      · rw [h137, if_pos (by simp), mkZ_pc hr hm]; rfl
      · rw [show j = 137 by omega, if_neg (by simp), layA_get _ _ _ (by rw [z2, zz_size]; decide), z2, if_neg (by omega), zz_get 137 (by decide), mkZ_st hr hm]
/-- A composite literal at the operation, where its run is known. -/
theorem wpList_buildR {ops : Array Oper} {rest : List Oper} {o : Oper} {a : Act} {w : World} {Q : Exit → Act → World → Prop} (hgd : o.guard = none) (ty : TypeId) (i j : Nat) (x y : Operand) (ho : o.op = .build ty #[(i, x), (j, y)])
    (u v r : Value) (hx : a.eval x = u) (hy : a.eval y = v) (hr : (Instr.build ty #[(i, u), (j, v)]).run Tryd.prog w = .ok r w)
    (h : wpList Tryd.prog ops Q rest (a.put o.dst r) w) : wpList Tryd.prog ops Q (o :: rest) a w := by
  refine wpList_plain hgd fun K hK => ?_
  unfold Oper.wp execOp
  simp only [ho, Sem.run_bind, Sem.run_pure, Result.andThen_ok, List.map_toArray, List.map_cons, List.map_nil, hx, hy, hr]
  exact hK _ _ h
end Go.Proofs.YtmmflekajbeamaaDoor
