/-
  A state that is built out of its parts.
  Plans, the document's answer: a plan is done (cribref.Do).
-/
import Derived.Test.YtmmflekajbeamaaDoorT03
import Derived.Test.YtmmflekajbeamaaDoorT27
import Derived.Laws.Tables
import Derived.Test.YtmmflekajbeamaaDoorT26
namespace Go.Proofs.YtmmflekajbeamaaDoor
open Go.RowKit

theorem fold_put (off : Nat) : ∀ (l : List Value) (i : Nat) (cs : Array Value), off + i + l.length ≤ cs.size → ((l.zipIdx i).foldl (fun cs x => cs.setIfInBounds (off + x.2) x.1) cs).size = cs.size ∧ ∀ j : Nat, ((l.zipIdx i).foldl (fun cs x => cs.setIfInBounds (off + x.2) x.1) cs)[j]? = if off + i ≤ j ∧ j < off + i + l.length then l[j - (off + i)]? else cs[j]? := by
  intro l
  induction l with
  | nil => intro i cs _; exact ⟨rfl, fun j => by rw [if_neg (by simp only [List.length_nil]; omega)]; rfl⟩
  | cons v l ih =>
    intro i cs h
    rw [List.length_cons] at h
    obtain ⟨h1, h2⟩ := ih (i + 1) (cs.setIfInBounds (off + i) v) (by rw [Array.size_setIfInBounds]; omega)
    rw [List.zipIdx_cons, List.foldl_cons]
    refine ⟨by rw [h1, Array.size_setIfInBounds], fun j => ?_⟩
    rw [h2, List.length_cons]
    by_cases hj : j = off + i
    · subst hj
      rw [if_neg (by omega), if_pos (by omega), Nat.sub_self, Array.getElem?_setIfInBounds, if_pos rfl, if_pos (by omega)]
      rfl
    · by_cases hj2 : off + (i + 1) ≤ j ∧ j < off + (i + 1) + l.length
      · rw [if_pos hj2, if_pos (by omega), show j - (off + i) = (j - (off + (i + 1))) + 1 by omega, List.getElem?_cons_succ]
      · rw [if_neg hj2, if_neg (by omega), Array.getElem?_setIfInBounds, if_neg (fun e => hj e.symm)]
/-- The cells of v laid into cs from off on. -/
def layA (off : Nat) (v cs : Array Value) : Array Value := v.zipIdx.foldl (fun cs x => cs.setIfInBounds (off + x.2) x.1) cs
theorem layA_eq (off : Nat) (v cs : Array Value) : layA off v cs = (v.toList.zipIdx 0).foldl (fun cs x => cs.setIfInBounds (off + x.2) x.1) cs := by
  unfold layA
  rw [← Array.foldl_toList, Array.toList_zipIdx]
theorem layA_size (off : Nat) (v cs : Array Value) (h : off + v.size ≤ cs.size) : (layA off v cs).size = cs.size := by
  rw [layA_eq]
  exact (fold_put off v.toList 0 cs (by simpa using h)).1
theorem layA_get (off : Nat) (v cs : Array Value) (h : off + v.size ≤ cs.size) (j : Nat) : (layA off v cs)[j]? = if off ≤ j ∧ j < off + v.size then v[j - off]? else cs[j]? := by
  rw [layA_eq, (fold_put off v.toList 0 cs (by simpa using h)).2 j]
  simp
set_option maxRecDepth 100000 in
theorem places34 : (match Tryd.prog.underlying 34 with | some (.struct fs) => fs.toList.mapM (fun f => (Tryd.prog.info? f.type).map fun i => (f.offset, i.size)) | _ => none) = some [(0, 8), (8, 128), (136, 1), (137, 1)] := by kernel_rfl
theorem info34 : ∃ i, Tryd.prog.info? 34 = some i ∧ i.zero = some (.agg (S zeroZ)) := by
  have h : (Tryd.prog.info? 34).map (fun i => i.zero) = some (some (.agg (S zeroZ))) := by kernel_rfl
  cases hq : Tryd.prog.info? 34 with
  | none => rw [hq] at h; cases h
  | some i =>
    rw [hq] at h
    simp only [Option.map_some, Option.some.injEq] at h
    exact ⟨i, rfl, h⟩
set_option maxRecDepth 100000 in
theorem built34 (parts : List (Nat × Value)) : Tryd.prog.built 34 parts = Instr.fill (fun x => #[((0 : Nat), (8 : Nat)), (8, 128), (136, 1), (137, 1)][x]?) (S zeroZ) parts := by
  obtain ⟨i, hi, hz⟩ := info34
  have hp := places34
  unfold Program.built
  rw [hi]
  rw [Tryd.underlying34] at hp ⊢
  simp only [hz] at hp ⊢
  rw [hp]
  rfl
theorem zz_get (j : Nat) (h : j < 138) : (S zeroZ)[j]? = some (.int .i64 0) := by
  have := S_get zeroZ j (by simpa [zeroZ] using h)
  rw [this]
  unfold gz zeroZ
  rw [List.getD_eq_getElem?_getD, List.getElem?_replicate, if_pos h]; rfl
theorem zz_size : (S zeroZ).size = 138 := by rw [S_size]; simp [zeroZ]
theorem S_ext {z : List Int} {a : Array Value} (hl : z.length = a.size) (h : ∀ j, j < z.length → a[j]? = some (.int .i64 (gz z j))) : a = S z := by
  apply Array.ext_getElem?
  intro j
  by_cases hj : j < z.length
  · rw [h j hj, S_get z j hj]
  · rw [Array.getElem?_eq_none (by omega), Array.getElem?_eq_none (by rw [S_size]; omega)]
theorem fill_two (p q : Nat) (a b : Array Value) (o1 s1 o2 s2 : Nat) (hp : #[((0 : Nat), (8 : Nat)), (8, 128), (136, 1), (137, 1)][p]? = some (o1, s1)) (hq : #[((0 : Nat), (8 : Nat)), (8, 128), (136, 1), (137, 1)][q]? = some (o2, s2)) (v u : Value) (hv : v.cells = a) (hu : u.cells = b) (ha : a.size = s1) (hb : b.size = s2) (h1 : o1 + s1 ≤ 138) (h2 : o2 + s2 ≤ 138) :
    Instr.fill (fun x => #[((0 : Nat), (8 : Nat)), (8, 128), (136, 1), (137, 1)][x]?) (S zeroZ) [(p, v), (q, u)] = some (layA o2 b (layA o1 a (S zeroZ))) := by
  simp only [Instr.fill, hp, hq, hv, hu]
  rw [if_neg (by simp [ha, zz_size]; omega)]
  have hs : (Array.foldl (fun cs x => cs.setIfInBounds (o1 + x.2) x.1) (S zeroZ) a.zipIdx).size = 138 := by
    have := layA_size o1 a (S zeroZ) (by rw [zz_size]; omega)
    rw [zz_size] at this
    exact this
  rw [if_neg (by rw [hb, hs]; simp; omega)]
  rfl
/-- api.State{Regs: regs, Mem: mem}. -/
theorem build_rm (regs mem : List Int) (hr : regs.length = 8) (hm : mem.length = 128) (w : World) : (Instr.build 34 #[(0, .agg (S regs)), (1, .agg (S mem))]).run Tryd.prog w = .ok (.agg (S (mkZ regs mem 0 0))) w := by
  refine run_build w 34 _ _ ?_
  have z1 : (S regs).size = 8 := by rw [S_size, hr]
  have z2 : (S mem).size = 128 := by rw [S_size, hm]
  rw [built34, fill_two 0 1 (S regs) (S mem) 0 8 8 128 rfl rfl _ _ rfl rfl z1 z2 (by decide) (by decide)]
  congr 1
  have hs1 := layA_size 0 (S regs) (S zeroZ) (by rw [z1, zz_size]; decide)
  rw [zz_size] at hs1
  refine S_ext (by rw [mkZ_len hr hm, layA_size _ _ _ (by rw [hs1, z2]; decide), hs1]) (fun j hj => ?_)
  rw [mkZ_len hr hm] at hj
  rw [layA_get _ _ _ (by rw [hs1, z2]; decide), z2]
  by_cases h8 : j < 8
  · rw [if_neg (by omega), layA_get _ _ _ (by rw [z1, zz_size]; decide), z1, if_pos (by omega), mkZ_reg hr h8, Nat.sub_zero, S_get regs j (by omega)]; rfl
  · by_cases h136 : j < 136
    · rw [if_pos (by omega), S_get mem (j - 8) (by omega)]
      have := mkZ_mem (pc := 0) (st := 0) hr hm (i := j - 8) (by omega)
      rw [show 8 + (j - 8) = j by omega] at this
      rw [this]; rfl
    · rw [if_neg (by omega), layA_get _ _ _ (by rw [z1, zz_size]; decide), z1, if_neg (by omega), zz_get j hj]
      by_cases h137 : j = 136
      · rw [h137, mkZ_pc hr hm]
      · rw [show j = 137 by omega, mkZ_st hr hm]
/-- api.State{Mem: mem, Pc: pc}. -/
theorem build_mp (mem : List Int) (pc : Int) (hm : mem.length = 128) (w : World) : (Instr.build 34 #[(1, .agg (S mem)), (2, .int .i64 pc)]).run Tryd.prog w = .ok (.agg (S (mkZ (List.replicate 8 0) mem pc 0))) w := by
  refine run_build w 34 _ _ ?_
  have hr : (List.replicate 8 (0 : Int)).length = 8 := by simp
  have z2 : (S mem).size = 128 := by rw [S_size, hm]
  rw [built34, fill_two 1 2 (S mem) #[.int .i64 pc] 8 128 136 1 rfl rfl _ _ rfl rfl z2 rfl (by decide) (by decide)]
  congr 1
  have hs1 := layA_size 8 (S mem) (S zeroZ) (by rw [z2, zz_size]; decide)
  rw [zz_size] at hs1
  refine S_ext (by rw [mkZ_len hr hm, layA_size _ _ _ (by rw [hs1]; exact Nat.le_of_ble_eq_true rfl), hs1]) (fun j hj => ?_)
  rw [mkZ_len hr hm] at hj
  rw [layA_get _ _ _ (by rw [hs1]; exact Nat.le_of_ble_eq_true rfl)]
  by_cases h8 : j < 8
  · rw [if_neg (by simp; omega), layA_get _ _ _ (by rw [z2, zz_size]; decide), z2, if_neg (by omega), zz_get j hj, mkZ_reg hr h8, List.getD_eq_getElem?_getD, List.getElem?_replicate, if_pos h8]; rfl
  · by_cases h136 : j < 136
    · rw [if_neg (by simp; omega), layA_get _ _ _ (by rw [z2, zz_size]; decide), z2, if_pos (by omega), S_get mem (j - 8) (by omega)]
      have := mkZ_mem (pc := pc) (st := 0) hr hm (i := j - 8) (by omega)
      rw [show 8 + (j - 8) = j by omega] at this
      rw [this]; rfl
    · by_cases h137 : j = 136
      · rw [h137, if_pos (by simp), mkZ_pc hr hm]; rfl
      · rw [show j = 137 by omega, if_neg (by simp), layA_get _ _ _ (by rw [z2, zz_size]; decide), z2, if_neg (by omega), zz_get 137 (by decide), mkZ_st hr hm]
/-- A composite literal at the operation, where its run is known. -/
theorem wpList_buildR {ops : Array Oper} {rest : List Oper} {o : Oper} {a : Act} {w : World} {Q : Exit → Act → World → Prop} (hgd : o.guard = none) (ty : TypeId) (i j : Nat) (x y : Operand) (ho : o.op = .build ty #[(i, x), (j, y)])
    (u v r : Value) (hx : a.eval x = u) (hy : a.eval y = v) (hr : (Instr.build ty #[(i, u), (j, v)]).run Tryd.prog w = .ok r w)
    (h : wpList Tryd.prog ops Q rest (a.put o.dst r) w) : wpList Tryd.prog ops Q (o :: rest) a w := by
  refine wpList_plain hgd fun K hK => ?_
  unfold Oper.wp execOp
  simp only [ho, Sem.run_bind, Sem.run_pure, Result.andThen_ok, List.map_toArray, List.map_cons, List.map_nil, hx, hy, hr]
  exact hK _ _ h
end Go.Proofs.YtmmflekajbeamaaDoor

namespace Go.Proofs.YtmmflekajbeamaaDoor
open Go.RowKit

theorem stB_rm {regs mem : List Int} (hr : regs.length = 8) (hm : mem.length = 128) : stB (mkZ regs mem 0 0) = true ↔ okRM regs mem := by
  unfold stB okRM
  rw [Bool.and_eq_true, Bool.and_eq_true]
  have e1 : regsB (mkZ regs mem 0 0) = allW (gz regs) 8 := by
    unfold regsB allW
    rw [Bool.eq_iff_iff, List.all_eq_true, List.all_eq_true]
    constructor
    · intro h i hi
      have := h i hi
      rw [mkZ_reg hr (List.mem_range.1 hi)] at this
      exact this
    · intro h i hi
      rw [mkZ_reg hr (List.mem_range.1 hi)]
      exact h i hi
  have e2 : memB (mkZ regs mem 0 0) = allW (gz mem) 128 := by
    unfold memB allW
    rw [Bool.eq_iff_iff, List.all_eq_true, List.all_eq_true]
    constructor
    · intro h i hi
      have := h i hi
      rw [mkZ_mem hr hm (List.mem_range.1 hi)] at this
      exact this
    · intro h i hi
      rw [mkZ_mem hr hm (List.mem_range.1 hi)]
      exact h i hi
  have e3 : pcB (mkZ regs mem 0 0) = true := by
    unfold pcB
    rw [mkZ_pc hr hm, mkZ_st hr hm]
    decide
  rw [e1, e2, e3]
  simp
theorem take_set {α : Type} (l m : List α) (k : Nat) (x : α) (hk : k < l.length) (hl : l[k]? = some x) (hm : k < m.length) : (l.take k ++ m.drop k).set k x = l.take (k + 1) ++ m.drop (k + 1) := by
  have h1 : (l.take k).length = k := by rw [List.length_take]; omega
  rw [List.set_append_right _ _ (by omega), h1, Nat.sub_self, List.drop_eq_getElem_cons hm, List.set_cons_zero, List.take_add_one, hl, List.append_assoc]
  rfl

set_option maxRecDepth 100000 in
set_option maxHeartbeats 4000000 in
theorem refDo_any (p : ByteArray) (regs mem : List Int) (w : World) (hr : regs.length = 8) (hm : mem.length = 128) (hp : p.size ≤ maxLen) :
    Calls Tryd.prog 53 #[.string p, .agg (S regs), .agg (S mem)] w (DoPost p regs mem w) := by
  have z8 := zero8; have z16 := zero16
  obtain ⟨W0, hW0⟩ : ∃ W0, W0 = ((w.alloc (.cells (S regs) 31)).alloc (.cells (S mem) 32)).alloc (.cells (S (zr 8)) 31) := ⟨_, rfl⟩
  have HW := hide hW0
  have hb0 : Below w.heap.size w W0 := by rw [hW0]; exact below3 w _ _ _
  have hz0 : W0.heap.size = w.heap.size + 1 + 1 + 1 := by rw [hW0, size_alloc1, size_alloc1, size_alloc1]
  have r0 : RowI W0 w.heap.size 31 regs := by
    unfold RowI; rw [hW0, Below.heap_alloc _ _ _ (by rw [size_alloc1, size_alloc1]; omega), Below.heap_alloc _ _ _ (by rw [size_alloc1]; omega), _root_.Go.heap_alloc_new]
  have r1 : RowI W0 (w.heap.size + 1) 32 mem := by
    unfold RowI
    rw [hW0, Below.heap_alloc _ _ _ (by rw [size_alloc1, size_alloc1]; omega)]
    have := _root_.Go.heap_alloc_new (w.alloc (.cells (S regs) 31)) (.cells (S mem) 32)
    rw [size_alloc1] at this
    exact this
  have r2 : RowI W0 (w.heap.size + 1 + 1) 31 (zr 8) := by
    unfold RowI
    rw [hW0]
    have := _root_.Go.heap_alloc_new ((w.alloc (.cells (S regs) 31)).alloc (.cells (S mem) 32)) (.cells (S (zr 8)) 31)
    rw [size_alloc1, size_alloc1] at this
    exact this
  have HR0 := hide r0; have HR1 := hide r1; have HR2 := hide r2; have HB0 := hide hb0
  have HBad : Hid (∀ w' n, Below w.heap.size w w' → ((n = 8 ∧ ¬ okRM regs mem) ∨ (n = 11 ∧ okRM regs mem ∧ ¬ putsOK p)) → DoPost p regs mem w (.returned (.tuple #[.agg (S (zr 8)), .int .i64 n])) w') := fun w' n hb hn => by
    rcases hn with ⟨rfl, h⟩ | ⟨rfl, h1, h2⟩
    · exact ⟨hb, .inl ⟨h, rfl⟩⟩
    · exact ⟨hb, .inr (.inl ⟨h1, h2, rfl⟩)⟩
  have HBd := hide (build_rm regs mem hr hm)
  have HRt := hide (right_any (mkZ regs mem 0 0) W0 (mkZ_len hr hm))
  have HPt := hide (fun w' => refPuts_any p w' hp)
  have hst := stB_rm hr hm
  clear r0 r1 r2 hb0 hW0
  by_cases hok : okRM regs mem
  · rw [hst.2 hok] at HRt
    have HOK := hide hok
    have hWr := allW_WL hok.1 hr
    have hWm := allW_WL hok.2 hm
    clear hst hok
    go_enter Tryd.func53, Tryd.ntmps53
    go_wp2_with (first | (refine wpList_loadR rfl Tryd.underlying31 size8 rfl _ rfl w.heap.size rfl (by rw [← HW.out]; exact HR0.out.isRow 8 hr) (S regs) (by rw [← HW.out]; exact HR0.out.rowD) ?_) | (refine wpList_loadR rfl Tryd.underlying32 size128 rfl _ rfl (w.heap.size + 1) rfl (by rw [← HW.out]; exact HR1.out.isRow 128 hm) (S mem) (by rw [← HW.out]; exact HR1.out.rowD) ?_) | (refine wpList_buildR rfl 34 0 1 _ _ rfl (.agg (S regs)) (.agg (S mem)) _ rfl rfl (HBd.out _) ?_))
    rw [← HW.out]
    refine (unhide HRt).mono ?_
    rintro e wA ⟨rfl, hbA⟩
    have HBA : Hid (Below w.heap.size w wA) := HB0.out.trans (hbA.mono (by omega))
    have HRA0 := hide (HR0.out.keep (hbA.block _ (by omega)))
    have HRA1 := hide (HR1.out.keep (hbA.block _ (by omega)))
    have HRA2 := hide (HR2.out.keep (hbA.block _ (by omega)))
    have hzA := hbA.size
    clear hbA HRt
    go_wp2_with fail
    refine (unhide HPt _).mono ?_
    rintro e w1 ⟨hb1, ⟨hpk, pv, rfl, hpo⟩ | ⟨hpn, rfl⟩⟩
    · have HB1 : Hid (Below w.heap.size w w1) := HBA.out.trans (hb1.mono HBA.out.size)
      have hz1 := hb1.size
      have HR0' := hide (HRA0.out.keep (hb1.block _ (by omega)))
      have HR1' := hide (HRA1.out.keep (hb1.block _ (by omega)))
      have HR2' := hide (HRA2.out.keep (hb1.block _ (by omega)))
      have HPk := hide hpk; have HPo := hide (own_take' hpo (putL_len p _).symm)
      obtain ⟨pa, pc, rfl⟩ := owns_len hpo
      have hln : (putL p (p.size / 8)).length = p.size / 8 := putL_len p _
      have hpl10 : p.size / 8 ≤ 10 := by have := hpk.2.1; omega
      clear hb1 hpk hpo HPt HR0 HR1 HR2 HRA0 HRA1 HRA2
      have HL0 : Hid (RowI (w1.alloc (.cells (S (zr 16)) 119)) w1.heap.size 119 (zr 16)) := _root_.Go.heap_alloc_new w1 _
      have HBp : Hid (Below w1.heap.size w1 (w1.alloc (.cells (S (zr 16)) 119))) := (Below.refl _ _).alloc (Nat.le_refl _) _
      have hm1 : w.heap.size + 1 + 1 < w1.heap.size := HR2'.out.lt
      go_wp2_with fail
      go_loopw [12] (fun i wr => ∃ k : Nat, k ≤ 8 ∧ i = .int .i64 k ∧ Hid (RowI wr w1.heap.size 119 (regs.take k ++ (zr 16).drop k) ∧ Below w1.heap.size w1 wr)) (fun i _ => 8 - (intOf i).toNat)
      case atStart => exact ⟨0, Nat.zero_le _, rfl, HL0.out, HBp.out⟩
      case round =>
        obtain ⟨k, hk, rfl, HRl⟩ := hrel
        by_cases hlt : k < 8
        · have hlt' : (k : Int) < 8 := by omega
          obtain ⟨h1, h2⟩ := HRl.out
          have hlen : (regs.take k ++ (zr 16).drop k).length = 16 := by rw [List.length_append, List.length_take, List.length_drop, zr_len]; omega
          have x0 := (HR0'.out.keep (h2.block _ (by omega))).cell k (by omega)
          have x1 := h1.cell k (by omega)
          have f1 := h1.frozen k
          have HN : Hid (RowI (wr.setCell ⟨w1.heap.size, k, none⟩ (.int .i64 (gz regs k))) w1.heap.size 119 (regs.take (k + 1) ++ (zr 16).drop (k + 1)) ∧ Below w1.heap.size w1 (wr.setCell ⟨w1.heap.size, k, none⟩ (.int .i64 (gz regs k)))) := by
            refine ⟨?_, h2.setCell (Nat.le_refl _) _⟩
            rw [← take_set regs (zr 16) k (gz regs k) (by omega) (by unfold gz; rw [List.getD_eq_getElem?_getD, List.getElem?_eq_getElem (by omega)]; rfl) (by rw [zr_len]; omega)]
            exact h1.set _ _
          clear h1 h2 hlen
          go_wp2_with fail
          exact ⟨⟨k + 1, by omega, by go_num, HN.out⟩, by simp [intOf]; omega⟩
        · have hkn : k = 8 := by omega
          have e8 : (k : Int) = 8 := by omega
          rw [e8]
          subst hkn
          obtain ⟨h1, h2⟩ := HRl.out
          rw [List.take_of_length_le (by omega)] at h1
          have h1' : RowI wr w1.heap.size 119 (begD regs) := h1
          have HS1 := hide h1'; have HS2 := hide h2
          clear h1 h1' h2 HRl e8 hk hlt
          go_wp2_with fail
          go_loopw [13] (fun i wr => ∃ k : Nat, k ≤ p.size / 8 ∧ i = .int .i64 k ∧ Hid (RowI wr w1.heap.size 119 (((putL p (p.size / 8)).take k).foldl (stD mem) (begD regs)) ∧ Below w1.heap.size w1 wr)) (fun i _ => p.size / 8 - (intOf i).toNat)
          case atStart => exact ⟨0, Nat.zero_le _, rfl, HS1.out, HS2.out⟩
          case round =>
            obtain ⟨k, hk, rfl, HRl⟩ := hrel
            have hwl := WL.fold hWm (putL_ok HPk.out) k (begD regs) (by omega) (WL.beg hWr)
            by_cases hlt : k < p.size / 8
            · have hlt' : (k : Int) < ((p.size / 8 : Nat) : Int) := by omega
              have hpk : (putL p (p.size / 8))[k]? = some ((putL p (p.size / 8))[k]'(by omega)) := List.getElem?_eq_getElem (by omega)
              have hmem := List.mem_of_getElem? hpk
              obtain ⟨hok, hkk⟩ := putL_ok HPk.out _ hmem
              have HStp : Hid (((putL p (p.size / 8)).take (k + 1)).foldl (stD mem) (begD regs) = (((putL p (p.size / 8)).take k).foldl (stD mem) (begD regs)).set ((putL p (p.size / 8))[k]'(by omega)).d (vD (((putL p (p.size / 8)).take k).foldl (stD mem) (begD regs)) mem ((putL p (p.size / 8))[k]'(by omega)))) := foldl_take_succ _ _ _ _ _ hpk
              obtain ⟨hrl, hbl⟩ := HRl.out
              obtain ⟨g, cap, hform, _, hgl⟩ := HPo.out.form (by omega)
              obtain ⟨x0, x1, x2, x3, x4⟩ := put_cells (own_grow (own_take' (hform ▸ HPo.out) rfl) hbl) k _ hpk
              have hform' : pa = some ⟨g, 0, none⟩ := by injection hform
              subst hform'
              have hrm : RowI wr (w.heap.size + 1) 32 mem := HR1'.out.keep (hbl.block _ HR1'.out.lt)
              have hwz : w1.heap.size < wr.heap.size := hrl.lt
              generalize (putL p (p.size / 8))[k]'(by omega) = q at *
              have hd16 := hok.1
              have hd16' : (q.d : Int) < 16 := by omega
              generalize hL : ((putL p (p.size / 8)).take k).foldl (stD mem) (begD regs) = L at *
              clear hL
              have la := hwl.1
              have hFin : ∀ w2 v, Below wr.heap.size wr w2 → v = vD L mem q → RowI w2 w1.heap.size 119 L ∧ (RowI (w2.setCell ⟨w1.heap.size, q.d, none⟩ (.int .i64 v)) w1.heap.size 119 (((putL p (p.size / 8)).take (k + 1)).foldl (stD mem) (begD regs)) ∧ Below w1.heap.size w1 (w2.setCell ⟨w1.heap.size, q.d, none⟩ (.int .i64 v))) := fun w2 v hb hv => by
                have hr2 := hrl.keep (hb.block _ hwz)
                rw [HStp.out, ← hv]
                exact ⟨hr2, hr2.set _ _, (hbl.trans (hb.mono (Nat.le_of_lt hwz))).setCell (Nat.le_refl _) _⟩
              have HFin := hide hFin
              obtain ⟨pk, pd, pa', pb, pk'⟩ := q
              obtain ⟨-, a16, b16, hc⟩ := hok
              simp only at x0 x1 x2 x3 x4 hd16 hd16' HFin a16 b16 hc hkk
              have ha := hrl.cell pa' (by omega)
              have hb := hrl.cell pb (by omega)
              have hdc := hrl.cell pd (by omega)
              have hdf := hrl.frozen pd
              have wa := hwl.at a16
              have wb := hwl.at b16
              have a16' : (pa' : Int) < 16 := by omega
              have b16' : (pb : Int) < 16 := by omega
              have eb : gz L pb = L.getD pb 0 := rfl
              have ea : gz L pa' = L.getD pa' 0 := rfl
              rw [ea] at ha
              rw [eb] at hb
              have HB1' := hide (fun o => (Below.refl wr.heap.size wr).alloc (Nat.le_refl _) o)
              have HRMm := hide hrm
              clear hFin hrl hrm hbl hpk hmem hwl hform HStp HPo HRl HS1 HS2 ea eb
              rcases hc with ⟨rfl, rfl, rfl⟩ | ⟨k2, k5, rfl⟩ | ⟨rfl, rfl, hk6⟩ | ⟨rfl, rfl, rfl⟩
              · have x0' : wr.cell? ⟨g, k * 5, none⟩ = some (.int .i64 1) := x0
                have HV := hide (HFin.out wr (pk' : Int) (Below.refl _ _) rfl)
                clear x0 ha hb wa wb
                go_wp2_with fail
                exact ⟨⟨k + 1, by omega, by go_num, (HV.out.2.1.keep (Below.heap_alloc _ _ _ (by simp; omega))), HV.out.2.2.alloc (by simp; omega) _⟩, by simp [intOf]; omega⟩
              · have HV := HFin
                have hvd : vD L mem ⟨pk, pd, pa', pb, 0⟩ = wk pk (L.getD pa' 0) (L.getD pb 0) := by unfold vD; dsimp only; rw [if_neg (by omega), if_neg (by omega), if_neg (by omega)]
                rw [hvd] at HV
                have q1 : ((pk : Int) == 1) = false := by simp; omega
                have q6 : ((pk : Int) == 6) = false := by simp; omega
                have q7 : ((pk : Int) == 7) = false := by simp; omega
                have HRk := hide (fun w' => works_any pk (L.getD pa' 0) (L.getD pb 0) w' wa.1 wa.2 wb.1 wb.2 (by omega) (by omega))
                generalize L.getD pa' 0 = x at *
                generalize L.getD pb 0 = y at *
                clear k2 k5 hvd HFin
                go_wp2_with fail
                go_quiet ((go_at_call 84; exact Calls.quiet_of_same (unhide HRk _)))
                go_wp2_with fail
                exact ⟨⟨k + 1, by omega, by go_num, (HV.out _ _ (below_drewN (HB1'.out _) nq) rfl).2⟩, by simp [intOf]; omega⟩
              · obtain ⟨m, hmm⟩ := Int.eq_ofNat_of_zero_le (show 0 ≤ (L.getD pa' 0 + (pk' : Int)) % 128 by omega)
                have hm2 : m < 128 := by omega
                have HV := HFin
                have hvd : vD L mem ⟨6, pd, pa', 0, pk'⟩ = mem.getD m 0 := by unfold vD; dsimp only; rw [if_neg (by omega), if_pos rfl, hmm]; rfl
                rw [hvd] at HV
                have hxm := HRMm.out.cell m (by omega)
                have em : gz mem m = mem.getD m 0 := rfl
                rw [em] at hxm
                have hm2' : (m : Int) < 128 := by omega
                have hlt0 : w.heap.size + 1 < wr.heap.size := by omega
                have x0' : wr.cell? ⟨g, k * 5, none⟩ = some (.int .i64 6) := x0
                generalize L.getD pa' 0 = x at *
                generalize mem.getD m 0 = y at *
                clear x0 hb wb em hvd HFin
                go_wp2_with fail
                go_quiet (fail)
                go_wp2_with fail
                exact ⟨⟨k + 1, by omega, by go_num, (HV.out _ _ (below_drewN (HB1'.out _) nq) rfl).2⟩, by simp [intOf]; omega⟩
              · have x0' : wr.cell? ⟨g, k * 5, none⟩ = some (.int .i64 7) := x0
                have hvd : vD L mem ⟨7, pd, pa', 0, 0⟩ = L.getD pa' 0 := rfl
                have HV := hide (HFin.out wr (L.getD pa' 0) (Below.refl _ _) hvd.symm)
                generalize L.getD pa' 0 = x at *
                clear x0 hb wb hvd HFin
                go_wp2_with fail
                exact ⟨⟨k + 1, by omega, by go_num, (HV.out.2.1.keep (Below.heap_alloc _ _ _ (by simp; omega))), HV.out.2.2.alloc (by simp; omega) _⟩, by simp [intOf]; omega⟩
            · have hkn : k = p.size / 8 := by omega
              have hlt' : ¬ (k : Int) < ((p.size / 8 : Nat) : Int) := by omega
              obtain ⟨h7, hbl⟩ := HRl.out
              rw [List.take_of_length_le (by omega)] at h7 hwl
              have hDo : Hid ((putL p (p.size / 8)).foldl (stD mem) (begD regs) = doL mem (putL p (p.size / 8)) (begD regs)) := rfl
              generalize (putL p (p.size / 8)).foldl (stD mem) (begD regs) = L at *
              have ln := hwl.1
              have HQ0 := hide (HR0'.out.keep (hbl.block _ HR0'.out.lt))
              have HQ2 := hide (HR2'.out.keep (hbl.block _ HR2'.out.lt))
              have HQL := hide h7
              have HBf := hide (HB1.out.trans (hbl.mono HB1.out.size))
              clear h7 hbl hwl HRl HS1 HS2
              go_wp2_with fail
              go_loopw [16] (fun i wr => ∃ k : Nat, k ≤ 8 ∧ i = .int .i64 k ∧ Hid (RowI wr w.heap.size 31 (L.take k ++ regs.drop k) ∧ RowI wr w1.heap.size 119 L ∧ RowI wr (w.heap.size + 1 + 1) 31 (zr 8) ∧ Below w.heap.size w wr)) (fun i _ => 8 - (intOf i).toNat)
              case atStart => exact ⟨0, Nat.zero_le _, rfl, HQ0.out, HQL.out, HQ2.out, HBf.out⟩
              case round =>
                obtain ⟨k3, hk3, rfl, HR3⟩ := hrel
                obtain ⟨h1, h2, h3, h4⟩ := HR3.out
                by_cases hlt3 : k3 < 8
                · have hlt3' : (k3 : Int) < 8 := by omega
                  have hlt16 : (k3 : Int) < 16 := by omega
                  have hlen : (L.take k3 ++ regs.drop k3).length = 8 := by rw [List.length_append, List.length_take, List.length_drop]; omega
                  have x0 := h2.cell k3 (by omega)
                  have x1 := h1.cell k3 (by omega)
                  have f1 := h1.frozen k3
                  have HN : Hid (RowI (wr.setCell ⟨w.heap.size, k3, none⟩ (.int .i64 (gz L k3))) w.heap.size 31 (L.take (k3 + 1) ++ regs.drop (k3 + 1)) ∧ RowI (wr.setCell ⟨w.heap.size, k3, none⟩ (.int .i64 (gz L k3))) w1.heap.size 119 L ∧ RowI (wr.setCell ⟨w.heap.size, k3, none⟩ (.int .i64 (gz L k3))) (w.heap.size + 1 + 1) 31 (zr 8) ∧ Below w.heap.size w (wr.setCell ⟨w.heap.size, k3, none⟩ (.int .i64 (gz L k3)))) := by
                    refine ⟨?_, h2.keep (heap_set_other wr _ (by omega)), h3.keep (heap_set_other wr _ (by omega)), h4.setCell (Nat.le_refl _) _⟩
                    rw [← take_set L regs k3 (gz L k3) (by omega) (by unfold gz; rw [List.getD_eq_getElem?_getD, List.getElem?_eq_getElem (by omega)]; rfl) (by omega)]
                    exact h1.set _ _
                  clear h1 h2 h3 h4 hlen
                  go_wp2_with fail
                  exact ⟨⟨k3 + 1, by omega, by go_num, HN.out⟩, by simp [intOf]; omega⟩
                · have hk8 : k3 = 8 := by omega
                  have hlt3' : ¬ (k3 : Int) < 8 := by omega
                  rw [hk8, List.drop_of_length_le (by omega), List.append_nil] at h1
                  have hl8 : (L.take 8).length = 8 := by rw [List.length_take]; omega
                  have rI := h1.isRow 8 hl8
                  have rD := h1.rowD
                  have rI2 := h3.isRow 8 (zr_len 8)
                  have H3 := hide h3; have H4 := hide h4
                  clear h1 h2 h3 h4 hk8 HR3
                  go_wp2_with (first | (refine wpList_loadR rfl Tryd.underlying31 size8 rfl _ rfl w.heap.size rfl rI _ rD ?_) | (refine wpList_storeR size8 rfl _ _ rfl (w.heap.size + 1 + 1) rfl (L.take 8) rfl hl8 rI2 _ rfl ?_))
                  refine bodyPost_ret (v := .tuple #[.agg (S (L.take 8)), .int .i64 0]) (res_8 Tryd.results53 _ _ (w.heap.size + 1 + 1) _ hl8 rfl (H3.out.setRow8 _) _ rfl) rfl ⟨below_setRow H4.out (by omega) _, .inr (.inr ⟨HOK.out, HPk.out, ?_⟩)⟩
                  rw [hDo.out]
    · have HB1 : Hid (Below w.heap.size w w1) := HBA.out.trans (hb1.mono HBA.out.size)
      have hz1 := hb1.size
      have HR2' := hide (HRA2.out.keep (hb1.block _ (by omega)))
      have HN := hide hpn
      clear hb1 hpn HPt
      go_wp2_with (refine wpList_storeR size8 rfl _ _ rfl (w.heap.size + 1 + 1) rfl (zr 8) rfl (zr_len 8) (HR2'.out.isRow 8 (zr_len 8)) _ rfl ?_)
      exact bodyPost_ret (v := .tuple #[.agg (S (zr 8)), .int .i64 11]) (res_8 Tryd.results53 _ _ (w.heap.size + 1 + 1) (zr 8) (zr_len 8) rfl (HR2'.out.setRow8 (zr 8)) _ rfl) rfl (HBad.out _ 11 (below_setRow HB1.out (by omega) _) (.inr ⟨rfl, HOK.out, HN.out⟩))
  · have hf : stB (mkZ regs mem 0 0) = false := by
      cases hq : stB (mkZ regs mem 0 0)
      · rfl
      · exact absurd (hst.1 hq) hok
    rw [hf] at HRt
    have HN := hide hok
    clear hst hok hf
    go_enter Tryd.func53, Tryd.ntmps53
    go_wp2_with (first | (refine wpList_loadR rfl Tryd.underlying31 size8 rfl _ rfl w.heap.size rfl (by rw [← HW.out]; exact HR0.out.isRow 8 hr) (S regs) (by rw [← HW.out]; exact HR0.out.rowD) ?_) | (refine wpList_loadR rfl Tryd.underlying32 size128 rfl _ rfl (w.heap.size + 1) rfl (by rw [← HW.out]; exact HR1.out.isRow 128 hm) (S mem) (by rw [← HW.out]; exact HR1.out.rowD) ?_) | (refine wpList_buildR rfl 34 0 1 _ _ rfl (.agg (S regs)) (.agg (S mem)) _ rfl rfl (HBd.out _) ?_))
    rw [← HW.out]
    refine (unhide HRt).mono ?_
    rintro e wA ⟨rfl, hbA⟩
    have HBA : Hid (Below w.heap.size w wA) := HB0.out.trans (hbA.mono (by omega))
    have HRA2 := hide (HR2.out.keep (hbA.block _ (by omega)))
    clear hbA HRt
    go_wp2_with (refine wpList_storeR size8 rfl _ _ rfl (w.heap.size + 1 + 1) rfl (zr 8) rfl (zr_len 8) (HRA2.out.isRow 8 (zr_len 8)) _ rfl ?_)
    exact bodyPost_ret (v := .tuple #[.agg (S (zr 8)), .int .i64 8]) (res_8 Tryd.results53 _ _ (w.heap.size + 1 + 1) (zr 8) (zr_len 8) rfl (HRA2.out.setRow8 (zr 8)) _ rfl) rfl (HBad.out _ 8 (below_setRow HBA.out (by omega) _) (.inl ⟨rfl, HN.out⟩))
end Go.Proofs.YtmmflekajbeamaaDoor
