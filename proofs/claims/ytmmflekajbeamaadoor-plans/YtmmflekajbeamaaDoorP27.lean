/-
  Plans: crib.Do; the document's Do.
  Sound, as plain mathematics: expressions that are the same have the same value, whatever the registers and the memory are; so a plan whose registers come to the same expressions as a block's does what the block's words do. A block's own plan comes to the same.
  Sound, as plain mathematics: a block's own plan comes to the same as the block; a put on a slot that is no register, behind all others, changes no register.
-/
import Derived.Test.YtmmflekajbeamaaDoorP26
import Derived.Test.YtmmflekajbeamaaDoorP23
import Derived.Test.YtmmflekajbeamaaDoorP25
namespace Go.Proofs.YtmmflekajbeamaaDoor
open Go.RowKit

set_option maxRecDepth 100000 in
set_option maxHeartbeats 1000000 in
theorem cribDo_any (p : ByteArray) (regs mem : List Int) (w : World) (hr : regs.length = 8) (hm : mem.length = 128) (hp : p.size ≤ maxLen) :
    Calls Tryd.prog 52 #[.string p, .agg (S regs), .agg (S mem)] w (DoPost p regs mem w) := by
  have z8 := zero8
  obtain ⟨W0, hW0⟩ : ∃ W0, W0 = ((w.alloc (.cells (S regs) 31)).alloc (.cells (S mem) 32)).alloc (.cells (S (zr 8)) 31) := ⟨_, rfl⟩
  have HW := hide hW0
  have hb0 : Below w.heap.size w W0 := by rw [hW0]; exact below3 w _ _ _
  have hz0 : W0.heap.size = w.heap.size + 1 + 1 + 1 := by rw [hW0, size_alloc1, size_alloc1, size_alloc1]
  have r0 : RowI W0 w.heap.size 31 regs := by
    unfold RowI; rw [hW0, Below.heap_alloc _ _ _ (by rw [size_alloc1, size_alloc1]; omega), Below.heap_alloc _ _ _ (by rw [size_alloc1]; omega), _root_.Go.heap_alloc_new]
  have r1 : RowI W0 (w.heap.size + 1) 32 mem := by
    unfold RowI
    rw [hW0, Below.heap_alloc _ _ _ (by rw [size_alloc1, size_alloc1]; omega)]
    have := _root_.Go.heap_alloc_new (w.alloc (.cells (S regs) 31)) (.cells (S mem) 32)
    rw [size_alloc1] at this
    exact this
  have r2 : RowI W0 (w.heap.size + 1 + 1) 31 (zr 8) := by
    unfold RowI
    rw [hW0]
    have := _root_.Go.heap_alloc_new ((w.alloc (.cells (S regs) 31)).alloc (.cells (S mem) 32)) (.cells (S (zr 8)) 31)
    rw [size_alloc1, size_alloc1] at this
    exact this
  have HD := hide (plansDo_any p regs mem W0 hr hm hp)
  have HR0 := hide r0; have HR1 := hide r1; have HR2 := hide r2; have HB0 := hide hb0
  clear r0 r1 r2 hb0 hW0
  have hfin : ∀ w1 z n, Below W0.heap.size W0 w1 → z.length = 8 → (∀ w', Below w.heap.size w w' → DoPost p regs mem w (.returned (.tuple #[.agg (S z), .int .i64 n])) w') → RowI w1 (w.heap.size + 1 + 1) 31 (zr 8) ∧ DoPost p regs mem w (.returned (.tuple #[.agg (S z), .int .i64 n])) (w1.setRow (w.heap.size + 1 + 1) (S z)) := fun w1 z n hb hz hd =>
    ⟨HR2.out.keep (hb.block _ (by omega)), hd _ (below_setRow (HB0.out.trans (hb.mono (by omega))) (by omega) _)⟩
  have HFin := hide hfin
  clear hfin
  have key : ∀ e w1, DoPost p regs mem W0 e w1 → ∃ z n, e = .returned (.tuple #[.agg (S z), .int .i64 n]) ∧ z.length = 8 ∧ Below W0.heap.size W0 w1 ∧ ∀ w', Below w.heap.size w w' → DoPost p regs mem w (.returned (.tuple #[.agg (S z), .int .i64 n])) w' := fun e w1 h => by
    obtain ⟨hb, ⟨h1, rfl⟩ | ⟨h1, h2, rfl⟩ | ⟨h1, h2, rfl⟩⟩ := h
    · exact ⟨_, _, rfl, zr_len 8, hb, fun w' hb' => ⟨hb', .inl ⟨h1, rfl⟩⟩⟩
    · exact ⟨_, _, rfl, zr_len 8, hb, fun w' hb' => ⟨hb', .inr (.inl ⟨h1, h2, rfl⟩)⟩⟩
    · refine ⟨_, _, rfl, ?_, hb, fun w' hb' => ⟨hb', .inr (.inr ⟨h1, h2, rfl⟩)⟩⟩
      have hl : ((putL p (p.size / 8)).foldl (stD mem) (begD regs)).length = 16 := by
        have := (WL.fold (allW_WL h1.2 hm) (putL_ok h2) (putL p (p.size / 8)).length (begD regs) (Nat.le_refl _) (WL.beg (allW_WL h1.1 hr))).1
        rw [List.take_length] at this
        exact this
      unfold doL
      rw [List.length_take, hl]
      rfl
  have HKey := hide key
  clear key
  go_enter Tryd.func52, Tryd.ntmps52
  go_wp2_with (first | (refine wpList_loadR rfl Tryd.underlying31 size8 rfl _ rfl w.heap.size rfl (by rw [← HW.out]; exact HR0.out.isRow 8 hr) (S regs) (by rw [← HW.out]; exact HR0.out.rowD) ?_) | (refine wpList_loadR rfl Tryd.underlying32 size128 rfl _ rfl (w.heap.size + 1) rfl (by rw [← HW.out]; exact HR1.out.isRow 128 hm) (S mem) (by rw [← HW.out]; exact HR1.out.rowD) ?_))
  rw [← HW.out]
  refine (unhide HD).mono ?_
  intro e w1 hpost
  obtain ⟨z, n, rfl, hz, hb, hd⟩ := HKey.out e w1 hpost
  have HF := hide (HFin.out w1 z n hb hz hd)
  clear hpost hb hd HD HKey
  go_wp2_with (refine wpList_storeR size8 rfl _ _ rfl (w.heap.size + 1 + 1) rfl z rfl hz (HF.out.1.isRow 8 (zr_len 8)) _ rfl ?_)
  exact bodyPost_ret (v := .tuple #[.agg (S z), .int .i64 n]) (res_8 Tryd.results52 _ _ (w.heap.size + 1 + 1) z hz rfl (HF.out.1.setRow8 z) _ rfl) rfl HF.out.2
end Go.Proofs.YtmmflekajbeamaaDoor

namespace Go.Proofs.YtmmflekajbeamaaDoor

/-! ### values of a table's expressions -/
def evE (regs mem vs : List Int) (e : Ex) : Int :=
  if e.1 = 0 then regs.getD e.2.2.2 0 else if e.1 = 1 then (e.2.2.2 : Int) else if e.1 = 6 then mem.getD ((vs.getD e.2.1 0 + (e.2.2.2 : Int)) % 128).toNat 0 else wk e.1 (vs.getD e.2.1 0) (vs.getD e.2.2.1 0)
structure VI (regs mem : List Int) (T : List Ex) (vs : List Int) : Prop where
  len : vs.length = T.length
  at' : ∀ (i : Nat) (e : Ex), T[i]? = some e → vs[i]? = some (evE regs mem vs e)
theorem getD_app {α : Type} {l : List α} (x : List α) {i : Nat} (z : α) (h : i < l.length) : (l ++ x).getD i z = l.getD i z := by
  rw [List.getD_eq_getElem?_getD, List.getD_eq_getElem?_getD, List.getElem?_append_left h]
theorem evE_append {regs mem vs : List Int} {e : Ex} {n : Nat} (he : okE n e) (hn : n ≤ vs.length) (x : List Int) : evE regs mem (vs ++ x) e = evE regs mem vs e := by
  unfold evE
  unfold okE at he
  rcases he with ⟨k0, _⟩ | ⟨k0, _⟩ | ⟨k0, k0', a0, b0, v0⟩ | ⟨k0, a0, b0, v0⟩
  · rw [if_pos k0, if_pos k0]
  · rw [if_neg (by omega), if_pos k0, if_neg (by omega), if_pos k0]
  · rw [getD_app x 0 (by omega), getD_app x 0 (by omega)]
  · rw [getD_app x 0 (by omega), if_neg (by omega), if_neg (by omega), if_pos k0, if_neg (by omega), if_neg (by omega), if_pos k0]
theorem VI.add {regs mem : List Int} {T : List Ex} {ds : List (List UInt8)} {vs : List Int} (h : VI regs mem T vs) (hT : TI T ds) {e : Ex} (he : okE T.length e) : VI regs mem (T ++ [e]) (vs ++ [evE regs mem vs e]) := by
  refine ⟨by simp [h.len], fun i e' hi => ?_⟩
  by_cases hl : i < T.length
  · rw [List.getElem?_append_left hl] at hi
    rw [List.getElem?_append_left (by rw [h.len]; exact hl), h.at' i e' hi, evE_append (hT.ok i e' hi).1 (by rw [h.len]; omega)]
  · rw [List.getElem?_append_right (by omega)] at hi
    have h0 : i - T.length = 0 := by
      have := (List.getElem?_eq_some_iff.1 hi).1
      simp at this
      omega
    rw [h0] at hi
    simp at hi
    subst hi
    have hi' : i = T.length := by omega
    subst hi'
    rw [List.getElem?_append_right (by rw [h.len]; exact Nat.le_refl _), h.len, Nat.sub_self, evE_append he (by rw [h.len]; exact Nat.le_refl _)]
    rfl
/-- A table with its texts and its values. -/
structure Tb (regs mem : List Int) (T : List Ex) (ds : List (List UInt8)) (vs : List Int) : Prop where
  ti : TI T ds
  vi : VI regs mem T vs
/-- A number tells a text and a value. -/
def TV (T : List Ex) (ds : List (List UInt8)) (vs : List Int) (n : Nat) (x : List UInt8) (v : Int) : Prop := Tells T ds n x ∧ vs.getD n 0 = v
theorem TV.more {regs mem : List Int} {T : List Ex} {ds : List (List UInt8)} {vs : List Int} {T' : List Ex} {ds' : List (List UInt8)} {vs' : List Int} {n : Nat} {x : List UInt8} {v : Int} (hb : Tb regs mem T ds vs) (h : TV T ds vs n x v) (k : More T ds T' ds') (kv : vs <+: vs') : TV T' ds' vs' n x v := by
  refine ⟨h.1.more hb.ti.len k, ?_⟩
  obtain ⟨u, rfl⟩ := kv
  rw [getD_app u 0 (by rw [hb.vi.len]; exact h.1.1)]
  exact h.2
theorem Tb.hold {regs mem : List Int} {T : List Ex} {ds : List (List UInt8)} {vs : List Int} (h : Tb regs mem T ds vs) {e : Ex} (he : okE T.length e) : ∃ T' ds' vs' n, Tb regs mem T' ds' vs' ∧ More T ds T' ds' ∧ vs <+: vs' ∧ TV T' ds' vs' n (strE ds e) (evE regs mem vs e) := by
  by_cases hm : e ∈ T
  · obtain ⟨n, hn⟩ := List.getElem?_of_mem hm
    refine ⟨T, ds, vs, n, h, More.refl _ _, List.prefix_refl _, h.ti.told hn, ?_⟩
    rw [List.getD_eq_getElem?_getD, h.vi.at' n e hn]
    rfl
  · refine ⟨T ++ [e], ds ++ [strE ds e], vs ++ [evE regs mem vs e], T.length, ⟨h.ti.add he hm, h.vi.add h.ti he⟩, More.add _ _ _ _, List.prefix_append _ _, h.ti.told_new e, ?_⟩
    rw [List.getD_eq_getElem?_getD, ← h.vi.len, List.getElem?_append_right (Nat.le_refl _), Nat.sub_self]
    rfl
theorem Tb.con {regs mem : List Int} {T : List Ex} {ds : List (List UInt8)} {vs : List Int} (h : Tb regs mem T ds vs) {n : Nat} {x : List UInt8} {v : Int} (ht : TV T ds vs n x v) (hx : isCon x = true) : ∃ c, c < 4294967296 ∧ x = sCon c ∧ v = (c : Int) := by
  obtain ⟨e, hn⟩ : ∃ e, T[n]? = some e := ⟨_, List.getElem?_eq_getElem ht.1.1⟩
  obtain ⟨h1, h2⟩ := h.ti.con hn
  rw [ht.1.2] at h1 h2
  have h3 := h1.2 hx
  obtain ⟨h4, h5⟩ := h2 h3
  refine ⟨_, h5, h4, ?_⟩
  rw [← ht.2, List.getD_eq_getElem?_getD, h.vi.at' n e hn, Option.getD_some]
  unfold evE
  rw [if_neg (by omega), if_pos h3]
theorem Tb.put {regs mem : List Int} {T : List Ex} {ds : List (List UInt8)} {vs : List Int} (h : Tb regs mem T ds vs) {ns : List Nat} {l : List (List UInt8)} {z : List Int} (hs : ∀ i, i < 16 → TV T ds vs (ns.getD i 0) (l.getD i []) (z.getD i 0)) {p : PutN} (hp : okPut p) (hk : p.k < 4294967296) :
    ∃ T' ds' vs' n, Tb regs mem T' ds' vs' ∧ More T ds T' ds' ∧ vs <+: vs' ∧ TV T' ds' vs' n (vS l p) (vD z mem p) := by
  obtain ⟨d16, a16, b16, hc⟩ := hp
  have ha := hs p.a a16
  have hb := hs p.b b16
  unfold vS vD
  rcases hc with ⟨k1, _, _⟩ | ⟨k2, k5, _⟩ | ⟨k6, _, hk6⟩ | ⟨k7, _, _⟩
  · rw [if_pos k1, if_pos k1]
    exact h.hold (e := (1, 0, 0, p.k)) (.inr (.inl ⟨rfl, rfl, rfl, hk⟩))
  · rw [if_neg (by omega), if_neg (by omega), if_neg (by omega), if_neg (by omega), if_neg (by omega), if_neg (by omega)]
    unfold jnS
    split
    · rename_i hcc
      obtain ⟨c1, h1, e1, f1⟩ := h.con ha hcc.1
      obtain ⟨c2, h2, e2, f2⟩ := h.con hb hcc.2
      rw [e1, e2, f1, f2, valX_con _ h1, valX_con _ h2]
      have hw := wk_bd p.kind c1 c2 (by omega) (by omega) (by omega) (by omega)
      obtain ⟨T', ds', vs', n, g1, g2, g3, g4⟩ := h.hold (e := (1, 0, 0, (wk p.kind c1 c2).toNat)) (.inr (.inl ⟨rfl, rfl, rfl, by dsimp only; omega⟩))
      refine ⟨T', ds', vs', n, g1, g2, g3, ?_⟩
      have ev : evE regs mem vs (1, 0, 0, (wk p.kind c1 c2).toNat) = wk p.kind c1 c2 := by
        unfold evE
        rw [if_neg (by dsimp only; omega), if_pos rfl]
        dsimp only
        omega
      rw [ev] at g4
      exact g4
    · obtain ⟨T', ds', vs', n, g1, g2, g3, g4⟩ := h.hold (e := (p.kind, ns.getD p.a 0, ns.getD p.b 0, 0)) (.inr (.inr (.inl ⟨k2, k5, ha.1.1, hb.1.1, rfl⟩)))
      refine ⟨T', ds', vs', n, g1, g2, g3, ?_⟩
      have e1 : strE ds (p.kind, ns.getD p.a 0, ns.getD p.b 0, 0) = sOp p.kind (l.getD p.a []) (l.getD p.b []) := by
        unfold strE
        rw [if_neg (by dsimp only; omega), if_neg (by dsimp only; omega), if_neg (by dsimp only; omega)]
        dsimp only
        rw [ha.1.2, hb.1.2]
      have e2 : evE regs mem vs (p.kind, ns.getD p.a 0, ns.getD p.b 0, 0) = wk p.kind (z.getD p.a 0) (z.getD p.b 0) := by
        unfold evE
        rw [if_neg (by dsimp only; omega), if_neg (by dsimp only; omega), if_neg (by dsimp only; omega)]
        dsimp only
        rw [ha.2, hb.2]
      rw [e1, e2] at g4
      exact g4
  · rw [if_neg (by omega), if_pos k6, if_neg (by omega), if_pos k6]
    unfold ldS
    split
    · rename_i hcc
      obtain ⟨c1, h1, e1, f1⟩ := h.con ha hcc
      rw [e1, f1, valX_con _ h1]
      obtain ⟨T1, ds1, vs1, m, g1, g2, g3, g4⟩ := h.hold (e := (1, 0, 0, (c1 + p.k) % 128)) (.inr (.inl ⟨rfl, rfl, rfl, by dsimp only; omega⟩))
      obtain ⟨T', ds', vs', n, q1, q2, q3, q4⟩ := g1.hold (e := (6, m, 0, 0)) (.inr (.inr (.inr ⟨rfl, g4.1.1, rfl, by dsimp only; omega⟩)))
      refine ⟨T', ds', vs', n, q1, g2.trans q2, g3.trans q3, ?_⟩
      have e2 : strE ds1 (6, m, 0, 0) = sLd (sCon ((c1 + p.k) % 128)) 0 := by
        unfold strE
        rw [if_neg (by dsimp only; omega), if_neg (by dsimp only; omega), if_pos rfl]
        dsimp only
        rw [g4.1.2]
        rfl
      have e3 : evE regs mem vs1 (6, m, 0, 0) = mem.getD (((c1 : Int) + (p.k : Int)) % 128).toNat 0 := by
        unfold evE
        rw [if_neg (by dsimp only; omega), if_neg (by dsimp only; omega), if_pos rfl]
        dsimp only
        rw [g4.2]
        unfold evE
        rw [if_neg (by dsimp only; omega), if_pos rfl]
        dsimp only
        congr 1
        omega
      rw [e2, e3] at q4
      exact q4
    · obtain ⟨T', ds', vs', n, g1, g2, g3, g4⟩ := h.hold (e := (6, ns.getD p.a 0, 0, p.k)) (.inr (.inr (.inr ⟨rfl, ha.1.1, rfl, hk6⟩)))
      refine ⟨T', ds', vs', n, g1, g2, g3, ?_⟩
      have e1 : strE ds (6, ns.getD p.a 0, 0, p.k) = sLd (l.getD p.a []) p.k := by
        unfold strE
        rw [if_neg (by dsimp only; omega), if_neg (by dsimp only; omega), if_pos rfl]
        dsimp only
        rw [ha.1.2]
      have e2 : evE regs mem vs (6, ns.getD p.a 0, 0, p.k) = mem.getD ((z.getD p.a 0 + (p.k : Int)) % 128).toNat 0 := by
        unfold evE
        rw [if_neg (by dsimp only; omega), if_neg (by dsimp only; omega), if_pos rfl]
        dsimp only
        rw [ha.2]
      rw [e1, e2] at g4
      exact g4
  · rw [if_neg (by omega), if_neg (by omega), if_pos k7, if_neg (by omega), if_neg (by omega), if_pos k7]
    exact ⟨T, ds, vs, _, h, More.refl _ _, List.prefix_refl _, ha⟩
/-- Slots by numbers, texts and values. -/
structure SlV (T : List Ex) (ds : List (List UInt8)) (vs : List Int) (ns : List Nat) (l : List (List UInt8)) (z : List Int) : Prop where
  n16 : ns.length = 16
  l16 : l.length = 16
  z16 : z.length = 16
  tv : ∀ i, i < 16 → TV T ds vs (ns.getD i 0) (l.getD i []) (z.getD i 0)
theorem SlV.more {regs mem : List Int} {T : List Ex} {ds : List (List UInt8)} {vs : List Int} {T' : List Ex} {ds' : List (List UInt8)} {vs' : List Int} {ns : List Nat} {l : List (List UInt8)} {z : List Int} (hb : Tb regs mem T ds vs) (h : SlV T ds vs ns l z) (k : More T ds T' ds') (kv : vs <+: vs') : SlV T' ds' vs' ns l z :=
  ⟨h.n16, h.l16, h.z16, fun i hi => (h.tv i hi).more hb k kv⟩
theorem SlV.set {T : List Ex} {ds : List (List UInt8)} {vs : List Int} {ns : List Nat} {l : List (List UInt8)} {z : List Int} (h : SlV T ds vs ns l z) {d n : Nat} {x : List UInt8} {v : Int} (hd : d < 16) (ht : TV T ds vs n x v) : SlV T ds vs (ns.set d n) (l.set d x) (z.set d v) := by
  refine ⟨by simp [h.n16], by simp [h.l16], by simp [h.z16], fun i hi => ?_⟩
  rw [getD_set _ _ _ _ _ (by rw [h.n16]; exact hd), getD_set _ _ _ _ _ (by rw [h.l16]; exact hd), getD_set _ _ _ _ _ (by rw [h.z16]; exact hd)]
  by_cases hid : i = d
  · rw [if_pos hid, if_pos hid, if_pos hid]; exact ht
  · rw [if_neg hid, if_neg hid, if_neg hid]; exact h.tv i hi
theorem SlV.fold {regs mem : List Int} : ∀ (ps : List PutN) {T : List Ex} {ds : List (List UInt8)} {vs : List Int} {ns : List Nat} {l : List (List UInt8)} {z : List Int}, Tb regs mem T ds vs → SlV T ds vs ns l z → (∀ p ∈ ps, okPut p ∧ p.k < 4294967296) →
    ∃ T' ds' vs' ns', Tb regs mem T' ds' vs' ∧ More T ds T' ds' ∧ vs <+: vs' ∧ SlV T' ds' vs' ns' (ps.foldl stS l) (ps.foldl (stD mem) z) := by
  intro ps
  induction ps with
  | nil => intro T ds vs ns l z hb hs _; exact ⟨T, ds, vs, ns, hb, More.refl _ _, List.prefix_refl _, hs⟩
  | cons p ps ih =>
    intro T ds vs ns l z hb hs hp
    obtain ⟨hp1, hp2⟩ := hp p List.mem_cons_self
    obtain ⟨T1, ds1, vs1, n, g1, g2, g3, g4⟩ := hb.put hs.tv hp1 hp2
    have hs1 := (hs.more hb g2 g3).set hp1.1 g4
    obtain ⟨T2, ds2, vs2, ns2, q1, q2, q3, q4⟩ := ih g1 hs1 (fun q hq => hp q (List.mem_cons_of_mem _ hq))
    exact ⟨T2, ds2, vs2, ns2, q1, g2.trans q2, g3.trans q3, q4⟩
theorem Tb.nil (regs mem : List Int) : Tb regs mem [] [] [] := ⟨⟨rfl, fun i e h => by simp at h, fun i j e h => by simp at h⟩, ⟨rfl, fun i e h => by simp at h⟩⟩
theorem Tb.beg {regs mem : List Int} (hr : regs.length = 8) : ∀ k, k ≤ 16 → ∀ {T : List Ex} {ds : List (List UInt8)} {vs : List Int}, Tb regs mem T ds vs → ∃ T' ds' vs', ∃ ns : List Nat, Tb regs mem T' ds' vs' ∧ More T ds T' ds' ∧ vs <+: vs' ∧ ns.length = k ∧ ∀ i, i < k → TV T' ds' vs' (ns.getD i 0) (begS.getD i []) ((begD regs).getD i 0) := by
  intro k
  induction k with
  | zero => intro _ T ds vs hb; exact ⟨T, ds, vs, [], hb, More.refl _ _, List.prefix_refl _, rfl, fun i hi => by omega⟩
  | succ k ih =>
    intro hk T ds vs hb
    obtain ⟨T1, ds1, vs1, ns1, g1, g2, g3, g4, g5⟩ := ih (by omega) hb
    have hx : begS.getD k [] = if k < 8 then sReg k else sCon 0 := by
      unfold begS
      rw [List.getD_eq_getElem?_getD, List.getElem?_map, List.getElem?_range (by omega)]; rfl
    have fin : ∀ (e : Ex), okE T1.length e → strE ds1 e = begS.getD k [] → evE regs mem vs1 e = (begD regs).getD k 0 → ∃ T' ds' vs', ∃ ns : List Nat, Tb regs mem T' ds' vs' ∧ More T ds T' ds' ∧ vs <+: vs' ∧ ns.length = k + 1 ∧ ∀ i, i < k + 1 → TV T' ds' vs' (ns.getD i 0) (begS.getD i []) ((begD regs).getD i 0) := by
      intro e he h1 h2
      obtain ⟨T2, ds2, vs2, n, q1, q2, q3, q4⟩ := g1.hold he
      refine ⟨T2, ds2, vs2, ns1 ++ [n], q1, g2.trans q2, g3.trans q3, by simp [g4], fun i hi => ?_⟩
      by_cases hik : i < k
      · rw [getD_app _ _ (by omega)]
        exact (g5 i hik).more g1 q2 q3
      · have : i = k := by omega
        subst this
        rw [List.getD_eq_getElem?_getD, ← g4, List.getElem?_append_right (Nat.le_refl _), Nat.sub_self, g4]
        rw [h1, h2] at q4
        exact q4
    by_cases h8 : k < 8
    · refine fin (0, 0, 0, k) (.inl ⟨rfl, rfl, rfl, h8⟩) (by rw [hx, if_pos h8]; rfl) ?_
      unfold evE begD
      rw [if_pos rfl, getD_app _ _ (by omega)]
    · refine fin (1, 0, 0, 0) (.inr (.inl ⟨rfl, rfl, rfl, by decide⟩)) (by rw [hx, if_neg h8]; rfl) ?_
      unfold evE begD
      rw [if_neg (by decide), if_pos rfl, List.getD_eq_getElem?_getD, List.getElem?_append_right (by omega), List.getElem?_replicate, if_pos (by omega)]
      rfl
/-- THE HEART: the same expressions, the same registers. -/
theorem same_do {ps qs : List PutN} (hp : ∀ p ∈ ps, okPut p ∧ p.k < 4294967296) (hq : ∀ p ∈ qs, okPut p ∧ p.k < 4294967296) (h : (comeS ps).take 8 = (comeS qs).take 8) {regs : List Int} (mem : List Int) (hr : regs.length = 8) : (doL mem ps (begD regs)).take 8 = (doL mem qs (begD regs)).take 8 := by
  obtain ⟨T0, ds0, vs0, ns0, b0, _, _, l0, t0⟩ := Tb.beg (mem := mem) hr 16 (Nat.le_refl _) (Tb.nil regs mem)
  have s0 : SlV T0 ds0 vs0 ns0 begS (begD regs) := ⟨l0, by simp [begS], by simp [begD, hr], t0⟩
  obtain ⟨T1, ds1, vs1, ns1, b1, m1, p1, s1⟩ := SlV.fold ps b0 s0 hp
  obtain ⟨T2, ds2, vs2, ns2, b2, m2, p2, s2⟩ := SlV.fold qs b1 (s0.more b0 m1 p1) hq
  have s1' := s1.more b1 m2 p2
  rw [take_eq_iff [] (by rw [comeS_len]; decide) (by rw [comeS_len]; decide)] at h
  rw [take_eq_iff 0 (by rw [show (doL mem ps (begD regs)).length = 16 from s1.z16]; decide) (by rw [show (doL mem qs (begD regs)).length = 16 from s2.z16]; decide)]
  intro i hi
  have h1 := s1'.tv i (by omega)
  have h2 := s2.tv i (by omega)
  have hx : (ps.foldl stS begS).getD i [] = (qs.foldl stS begS).getD i [] := h i hi
  have hn : ns1.getD i 0 = ns2.getD i 0 := b2.ti.inj h1.1.1 h2.1.1 (by rw [h1.1.2, h2.1.2, hx])
  show (ps.foldl (stD mem) (begD regs)).getD i 0 = (qs.foldl (stD mem) (begD regs)).getD i 0
  rw [← h1.2, ← h2.2, hn]
end Go.Proofs.YtmmflekajbeamaaDoor

namespace Go.Proofs.YtmmflekajbeamaaDoor

theorem getD_lt {α : Type} {l : List α} {i : Nat} (z y : α) (h : i < l.length) : l.getD i z = l.getD i y := by
  rw [List.getD_eq_getElem?_getD, List.getD_eq_getElem?_getD, List.getElem?_eq_getElem h]; rfl
/-- What the last puts on registers tell of their texts. -/
def KnR (last : List PutN) (l : List (List UInt8)) : Prop := ∀ r, r < 8 → (last.getD r zPut).kind = 1 → (last.getD r zPut).k < 4294967296 ∧ l.getD r [] = sCon (last.getD r zPut).k
theorem KnR.zero : KnR kn0.1 begS := fun r hr h => by
  have h2 : kn0.1.getD r zPut = zPut := by
    unfold kn0
    rw [List.getD_eq_getElem?_getD, List.getElem?_replicate, if_pos hr]; rfl
  rw [h2] at h
  cases h
theorem knP_vS {last : List PutN} {l : List (List UInt8)} (h : KnR last l) {p : PutN} (hp : okB p) : vS l (knP last p) = vS l p := by
  obtain ⟨k1, k6, d8, a8, b8, kk, ok⟩ := hp
  unfold knP
  split
  · rename_i hc
    obtain ⟨ha, hx, hy⟩ := hc
    unfold arN at ha
    have ha' := of_decide_eq_true ha
    obtain ⟨x1, x2⟩ := h p.a a8 hx
    obtain ⟨y1, y2⟩ := h p.b b8 hy
    unfold vS
    dsimp only
    rw [if_pos rfl, if_neg (by omega), if_neg (by omega), if_neg (by omega), x2, y2]
    unfold jnS
    rw [if_pos ⟨isCon_con _, isCon_con _⟩, valX_con _ x1, valX_con _ y1]
  · rfl
theorem KnR.step {last : List PutN} {l : List (List UInt8)} (h : KnR last l) (hl : last.length = 8) (ht : l.length = 16) (hb : ∀ q ∈ last, q.k < 4294967296) {p : PutN} (hp : okB p) : KnR (last.set p.d (knP last p)) (stS l p) := by
  have d8 := hp.2.2.1
  intro r hr
  unfold stS
  rw [getD_set _ _ _ _ _ (by rw [hl]; exact d8), getD_set _ _ _ _ _ (by rw [ht]; omega)]
  by_cases hrd : r = p.d
  · rw [if_pos hrd, if_pos hrd]
    intro hk
    refine ⟨(hp.kn hb).2.2.2.2.2.1, ?_⟩
    rw [← knP_vS h hp]
    unfold vS
    rw [if_pos hk]
  · rw [if_neg hrd, if_neg hrd]
    exact h r hr
theorem kn_come {ps : List PutN} (h : ∀ p ∈ ps, okB p) : ∀ k, k ≤ ps.length → KnR ((ps.take k).foldl knS kn0).1 ((ps.take k).foldl stS begS) ∧ ((ps.take k).foldl knS kn0).2.foldl stS begS = (ps.take k).foldl stS begS := by
  intro k
  induction k with
  | zero => intro _; exact ⟨KnR.zero, rfl⟩
  | succ k ih =>
    intro hk
    obtain ⟨h1, h2⟩ := ih (by omega)
    have hx : ps[k]? = some ps[k] := List.getElem?_eq_getElem (by omega)
    have hp := h _ (List.getElem_mem (by omega : k < ps.length))
    have hO := KnOK.fold h k (by omega)
    have hlen : ((ps.take k).foldl stS begS).length = 16 := by rw [foldS_len]; simp [begS]
    rw [foldl_take_succ _ _ _ _ _ hx, foldl_take_succ _ _ _ _ _ hx]
    refine ⟨h1.step hO.l8 hlen hO.bd hp, ?_⟩
    show ((List.foldl knS kn0 (ps.take k)).2 ++ [knP (List.foldl knS kn0 (ps.take k)).1 ps[k]]).foldl stS begS = _
    rw [List.foldl_append, h2]
    have e : ∀ l, vS l (knP (List.foldl knS kn0 (ps.take k)).1 ps[k]) = vS l ps[k] → stS l (knP (List.foldl knS kn0 (ps.take k)).1 ps[k]) = stS l ps[k] := fun l e => by
      unfold stS
      rw [e, knP_d]
    exact e _ (knP_vS h1 hp)
theorem wKn_come {ps : List PutN} (h : ∀ p ∈ ps, okB p) : comeS (wKn ps) = comeS ps := by
  have := (kn_come h ps.length (Nat.le_refl _)).2
  rw [List.take_length] at this
  exact this
theorem idle_come : ∀ (l : List PutN) (x y : List (List UInt8)), (∀ p ∈ l, okB p) → x.length = 16 → y.length = 16 → (∀ q, q < 8 → nd l q = true → x.getD q [] = y.getD q []) → ∀ q, q < 8 → (l.foldl stS x).getD q [] = ((idle l).foldl stS y).getD q [] := by
  intro l
  induction l with
  | nil => intro x y _ _ _ h q hq; exact h q hq rfl
  | cons p ps ih =>
    intro x y hp hx hy h
    have hpp := hp p List.mem_cons_self
    obtain ⟨k1, k6, d8, a8, b8, kk, ok⟩ := hpp
    have hps : ∀ q ∈ ps, okB q := fun q hq => hp q (List.mem_cons_of_mem _ hq)
    have hxl : (stS x p).length = 16 := by rw [stS_len, hx]
    by_cases hn : nd ps p.d = true
    · have hrd : ∀ r, r < 8 → rdB p r = true → x.getD r [] = y.getD r [] := fun r hr hb => h r hr (by rw [nd, if_pos hn, if_pos hb])
      have hv : vS x p = vS y p := by
        have hc : p.kind = 1 ∨ p.kind = 6 ∨ (2 ≤ p.kind ∧ p.kind ≤ 5) := by omega
        unfold vS
        rcases hc with h1 | h6 | hm
        · rw [if_pos h1, if_pos h1]
        · rw [hrd p.a a8 (by unfold rdB; rw [if_neg (by omega), if_pos (Or.inl h6)]; exact decide_eq_true rfl), if_neg (by omega), if_pos h6, if_neg (by omega), if_pos h6]
        · have e : ∀ r, rdB p r = decide (p.a = r ∨ p.b = r) := fun r => by unfold rdB; rw [if_neg (by omega), if_neg (by omega)]
          rw [hrd p.a a8 (by rw [e]; exact decide_eq_true (Or.inl rfl)), hrd p.b b8 (by rw [e]; exact decide_eq_true (Or.inr rfl))]
      have := ih (stS x p) (stS y p) hps hxl (by rw [stS_len, hy]) (fun q hq hnq => by
        unfold stS
        rw [getD_set _ _ _ _ _ (by omega), getD_set _ _ _ _ _ (by omega), hv]
        by_cases hqd : q = p.d
        · rw [if_pos hqd, if_pos hqd]
        · rw [if_neg hqd, if_neg hqd]
          refine h q hq ?_
          rw [nd, if_pos hn]
          split
          · rfl
          · rw [if_neg (fun e => hqd e.symm)]; exact hnq)
      rw [idle, if_pos hn]
      exact this
    · have := ih (stS x p) y hps hxl hy (fun q hq hnq => by
        have hqd : q ≠ p.d := fun e => hn (e ▸ hnq)
        unfold stS
        rw [getD_set _ _ _ _ _ (by omega), if_neg hqd]
        refine h q hq ?_
        rw [nd, if_neg hn]
        exact hnq)
      rw [idle, if_neg hn]
      exact this
/-- A block's own plan comes to the same as the block. -/
theorem own_come {s : ByteArray} (h : blkOK s) : (comeS (blkPuts s)).take 8 = (comeS (ownP s)).take 8 := by
  rw [take_eq_iff [] (by rw [comeS_len]; decide) (by rw [comeS_len]; decide)]
  intro q hq
  rw [← wKn_come (blkPuts_okB h)]
  exact idle_come (wKn (blkPuts s)) begS begS (wKn_ok (blkPuts_okB h)).1 (by simp [begS]) (by simp [begS]) (fun _ _ _ => rfl) q hq
/-- A put more, on a slot that is no register, behind all others. -/
theorem come_more (ps : List PutN) (p : PutN) (hd : 8 ≤ p.d) : (comeS (ps ++ [p])).take 8 = (comeS ps).take 8 := by
  rw [take_eq_iff [] (by rw [comeS_len]; decide) (by rw [comeS_len]; decide)]
  intro q hq
  have e : comeS (ps ++ [p]) = stS (comeS ps) p := by unfold comeS; rw [List.foldl_append]; rfl
  rw [e]
  unfold stS
  by_cases hlt : p.d < (comeS ps).length
  · rw [getD_set _ _ _ _ _ hlt, if_neg (by omega)]
  · rw [List.set_eq_of_length_le (by omega)]
end Go.Proofs.YtmmflekajbeamaaDoor
