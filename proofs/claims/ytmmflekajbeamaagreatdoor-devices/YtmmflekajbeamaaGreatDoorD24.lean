/-
  As OrdR: the operations from q on need not wait for each reader themselves: they may wait for one that waits for it, and so on.
  The document's device: Add, Clear, Sync, Read, Trouble (package cribref).
  The document's device: a crash, byte by byte; a device that is new (package cribref).
-/
import Derived.Test.YtmmflekajbeamaaGreatDoorD23
namespace Go.Proofs.YtmmflekajbeamaaGreatDoor
open Go

section
variable {P : Program} {ops : Array Oper} {Q : Exit → Act → World → Prop} {md : Region.Mode} {S : World → Prop} {q : Nat}

/-- j waits for i, or for one that does, within f steps. -/
def deepB (md : Region.Mode) (ops : Array Oper) : Nat → Nat → Nat → Bool
  | 0, _, _ => false
  | f + 1, j, i => (List.range ops.size).any fun k => Region.waitsFor md ops j k && (decide (k = i) || deepB md ops f k i)
/-- What waits for i is not listed yet. -/
def Late (md : Region.Mode) (ops : Array Oper) (F i : Nat) (listed : Array Bool) : Prop := ∀ f k, f ≤ F → deepB md ops f k i = true → listed.getD k true = false
theorem ready_deep {F i j : Nat} {listed : Array Bool} (hi : listed.getD i true = false) (hL : Late md ops F i listed) (hj : j ∈ Region.ready md ops listed) : ∀ f, f ≤ F → deepB md ops f j i = false := by
  intro f hf
  cases f with
  | zero => rfl
  | succ f =>
    cases h : deepB md ops (f + 1) j i with
    | false => rfl
    | true =>
      exfalso
      simp only [deepB, List.any_eq_true, Bool.and_eq_true, Bool.or_eq_true, decide_eq_true_eq] at h
      obtain ⟨k, _, hw, hk⟩ := h
      obtain ⟨hjun, oj, hoj, hall⟩ := mem_ready.1 hj
      obtain ⟨oj', hoj', e, he, hb, hon⟩ := Region.waitsFor_spec hw
      have : oj' = oj := Option.some.inj (hoj'.symm.trans hoj)
      subst this
      have h1 := hall e he hb
      rw [hon] at h1
      have h0 : listed.getD k true = false := by
        rcases hk with rfl | hk
        · exact hi
        · exact hL f k (by omega) hk
      rcases Nat.lt_or_ge k listed.size with h' | h'
      · simp [h'] at h0 h1; rw [h0] at h1; cases h1
      · simp [Array.getElem?_eq_none h'] at h1
theorem wpAnyQ_first2 {i F : Nat} {oi : Oper} {v : Value} (hi : ops[i]? = some oi) (hsel : ∀ (j : Nat) (o : Oper) cs b, ops[j]? = some o → o.op ≠ .select cs b)
    (hQ : ∀ c a w, Q (.panic c) (a.put oi.dst v) w → Q (.panic c) a w) (hlast : ∀ j, q ≤ j → j < ops.size → deepB md ops F j i = true) (hiq : i < q) :
    ∀ (fuel : Nat) (listed : Array Bool) (a : Act) (w : World),
      (∀ j oj, ops[j]? = some oj → j ≠ i → listed.getD j true = false → (∀ e ∈ oj.after, Region.binds md e = true → e.on ≠ i) → oi.apart ops oj = true) → Late md ops F i listed →
      i ∈ Region.ready md ops listed → YieldsIf P ops S oi v a → S w →
      wpAnyQ P md ops Q S q fuel (listed.setIfInBounds i true) (a.put oi.dst v) w → wpAnyQ P md ops Q S q (fuel + 1) listed a w := by
  intro fuel
  induction fuel with
  | zero =>
    intro listed a w _ _ hr hy hS H
    refine ⟨fun h => (by rw [h] at hr; cases hr), fun j hj => ?_⟩
    by_cases hji : j = i
    · subst hji; exact hy.wpOp hi hS ⟨fun _ => hS, H⟩
    · have := ready_mono hj hji
      rw [H.1] at this
      cases this
  | succ fuel ih =>
    intro listed a w hfree hL hr hy hS H
    refine ⟨fun h => (by rw [h] at hr; cases hr), fun j hj => ?_⟩
    by_cases hji : j = i
    · subst hji; exact hy.wpOp hi hS ⟨fun _ => hS, H⟩
    · have h1 := H.2 j (ready_mono hj hji)
      obtain ⟨hjun, oj, hoj, hall⟩ := mem_ready.1 hj
      have h0 : listed.getD i true = false := (mem_ready.1 hr).1
      have hnot : ∀ e ∈ oj.after, Region.binds md e = true → e.on ≠ i := fun e he hb heq => by
        have h1 := hall e he hb
        rw [heq] at h1
        rcases Nat.lt_or_ge i listed.size with h' | h'
        · simp [h'] at h0 h1; rw [h0] at h1; cases h1
        · simp [Array.getElem?_eq_none h'] at h1
      have hd := ready_deep h0 hL hj
      have hjs : j < ops.size := (Array.getElem?_eq_some_iff.1 hoj).1
      have hjq : j < q := by
        rcases Nat.lt_or_ge j q with h | h
        · exact h
        · have := hlast j h hjs
          rw [hd F (Nat.le_refl _)] at this
          cases this
      have h2 := wpOp_putIf hoj (hfree j oj hoj hji hjun hnot) (fun cs b => hsel i oi cs b hi) (fun cs b => hsel j oj cs b hoj) hQ hy h1
      have hfree' : ∀ k ok, ops[k]? = some ok → k ≠ i → (listed.setIfInBounds j true).getD k true = false →
          (∀ e ∈ ok.after, Region.binds md e = true → e.on ≠ i) → oi.apart ops ok = true := fun k ok hk hki hun hno => by
        refine hfree k ok hk hki ?_ hno
        by_cases hjk : j = k
        · subst hjk; exact hjun
        · rw [getD_set_ne true hjk] at hun; exact hun
      have hL' : Late md ops F i (listed.setIfInBounds j true) := fun f k hf hk => by
        by_cases hjk : j = k
        · subst hjk
          rw [hd f hf] at hk
          cases hk
        · rw [getD_set_ne true hjk]
          exact hL f k hf hk
      refine wpOp_mono (fun a' w' h3 => ⟨h3.2.1, ih (listed.setIfInBounds j true) a' w' hfree' hL' (ready_mono hr (Ne.symm hji)) h3.1 (h3.2.1 hjq) ?_⟩) h2
      rw [Array.setIfInBounds_comm _ _ hji]
      exact h3.2.2
def lateB (md : Region.Mode) (ops : Array Oper) (F i : Nat) (listed : Array Bool) : Bool := (List.range (F + 1)).all fun f => (List.range ops.size).all fun k => !deepB md ops f k i || !(listed.getD k true)
theorem deep_lt {f k i : Nat} (h : deepB md ops f k i = true) : k < ops.size := by
  cases f with
  | zero => cases h
  | succ f =>
    simp only [deepB, List.any_eq_true, Bool.and_eq_true] at h
    obtain ⟨m, _, hw, _⟩ := h
    obtain ⟨ok, hok, _⟩ := Region.waitsFor_spec hw
    exact (Array.getElem?_eq_some_iff.1 hok).1
theorem late_of {F i : Nat} {listed : Array Bool} (h : lateB md ops F i listed = true) : Late md ops F i listed := fun f k hf hk => by
  have h1 := List.all_eq_true.1 h f (List.mem_range.2 (by omega))
  have h2 := List.all_eq_true.1 h1 k (List.mem_range.2 (deep_lt hk))
  rw [hk] at h2
  simpa using h2
def headB2 (md : Region.Mode) (ops : Array Oper) (F : Nat) (ts : List Nat) : List Nat → Array Bool → Bool
  | [], listed => tailB md ops ts listed
  | i :: rs, listed => (Region.ready md ops listed).contains i && Region.free md ops listed i && lateB md ops F i listed && headB2 md ops F ts rs (listed.setIfInBounds i true)
theorem wpAnyQ_headI2 {ts : List Nat} {w : World} {F : Nat} (hsel : Region.noSelect ops = true) (hQ : ∀ d v c a w, Q (.panic c) (Act.put a d v) w → Q (.panic c) a w) (hS : S w) :
    ∀ (rs : List Nat) (listed : Array Bool) (a : Act), (rs.all fun i => decide (i < q) && (List.range ops.size).all fun j => decide (j < q) || deepB md ops F j i) = true → headB2 md ops F ts rs listed = true →
      wpTakeI P ops S (fun a' => wpTailI P ops Q S q ts a' w) rs a → wpAnyQ P md ops Q S q (rs.length + ts.length) listed a w
  | [], listed, a, _, hB, h => by
    rw [List.length_nil, Nat.zero_add]
    exact wpAnyQ_tailI ts listed a w hB h
  | i :: rs, listed, a, hl, hB, h => by
    simp only [headB2, Bool.and_eq_true] at hB
    simp only [List.all_cons, Bool.and_eq_true, decide_eq_true_eq] at hl
    obtain ⟨⟨⟨hr, hf⟩, hlt⟩, hB'⟩ := hB
    obtain ⟨o, v, h0, hy, hK⟩ := h
    rw [List.length_cons, show rs.length + 1 + ts.length = (rs.length + ts.length) + 1 by omega]
    refine wpAnyQ_first2 h0 (Region.noSelect_spec hsel) (hQ o.dst v) (fun j hj hjs => ?_) hl.1.1 (rs.length + ts.length) listed a w (Region.free_spec h0 hf) (late_of hlt) (by simpa using hr) hy hS (wpAnyQ_headI2 hsel hQ hS rs _ _ hl.2 hB' hK)
    have h1 := List.all_eq_true.1 hl.1.2 j (List.mem_range.2 hjs)
    simp only [Bool.or_eq_true, decide_eq_true_eq] at h1
    rcases h1 with h1 | h1
    · omega
    · exact h1
def planB2 (ops : Array Oper) (F : Nat) (rs ts : List Nat) (q : Nat) : Bool :=
  Region.noSelect ops && decide (rs.length + ts.length = ops.size) && (rs.all fun i => decide (i < q) && (List.range ops.size).all fun j => decide (j < q) || deepB .any ops F j i) && headB2 .any ops F ts rs (Array.replicate ops.size false)
theorem held_pick2 {id : Nat} {a : Act} {w : World} (F : Nat) (rs ts : List Nat) (q : Nat) (S : World → Prop) (hm : P.follows .mixedOrders = true) (hB : planB2 ops F rs ts q = true)
    (hQ : ∀ d v c a w, Q (.panic c) (Act.put a d v) w → Q (.panic c) a w) (hS : S w.drew)
    (h : wpTakeI P ops S (fun a' => wpTailI P ops Q S q ts a' w.drew) rs a) : (Code.region id ops true).wp P Q a w := by
  simp only [planB2, Bool.and_eq_true, decide_eq_true_eq] at hB
  obtain ⟨⟨⟨hsel, hlen⟩, hlast⟩, hhead⟩ := hB
  have H := wpAnyQ_headI2 (P := P) (md := .any) (Q := Q) (S := S) (q := q) (w := w.drew) hsel hQ hS rs _ a hlast hhead h
  refine wp_region_any hm ?_
  have H2 := wpAny_of_Q _ _ _ _ H
  rw [hlen] at H2
  exact H2
end
end Go.Proofs.YtmmflekajbeamaaGreatDoor

namespace Go.Proofs.YtmmflekajbeamaaGreatDoor
open Go.RowKit

def rAdd (r : RvN) (i : Int) (s : List UInt8) : Int × RvN :=
  if i < 0 ∨ 2 ≤ i then (13, r) else if r.tu + 1 = r.du then (15, r.tick) else if 1500 < (r.l i.toNat).length + (r.t i.toNat).length + s.length then (14, r.tick) else (0, { r.tick with t := upd r.t i.toNat (r.t i.toNat ++ s) })
def rClear (r : RvN) (i : Int) : Int × RvN :=
  if i < 0 ∨ 2 ≤ i then (13, r) else if r.tu + 1 = r.du then (15, r.tick) else (0, { r.tick with l := upd r.l i.toNat [], t := upd r.t i.toNat [] })
def rSync (r : RvN) (i : Int) : Int × RvN :=
  if i < 0 ∨ 2 ≤ i then (13, r) else if r.tu + 1 = r.du then (15, r.tick) else (0, { r.tick with l := upd r.l i.toNat (r.l i.toNat ++ r.t i.toNat), t := upd r.t i.toNat [] })
def rRead (r : RvN) (i : Int) : List UInt8 × Int × RvN :=
  if i < 0 ∨ 2 ≤ i then ([], 13, r) else if r.tu + 1 = r.du then ([], 15, r.tick) else (r.l i.toNat ++ r.t i.toNat, 0, r.tick)
def rTrouble (r : RvN) (k : Int) : Int × RvN := if k < 0 then (1, r) else if k = 0 then (0, { r with du := 0 }) else (0, { r with tu := 0, du := k.toNat })
theorem add_str (a b : List UInt8) (h : a.length + b.length ≤ 140737488355328) (w : World) : (Op.stringOp .add (bya a) (bya b)).run Tryz.prog w = .ok (.string (bya (a ++ b))) w := by
  rw [← bya_app]
  exact run_string_add_sum w _ _ (by rw [bya_size, bya_size]; omega)
theorem setCell_swap (w : World) (R i j : Nat) (u v : Value) (h : ¬ i = j) : (w.setCell ⟨R, i, none⟩ u).setCell ⟨R, j, none⟩ v = (w.setCell ⟨R, j, none⟩ v).setCell ⟨R, i, none⟩ u := by
  unfold World.setCell
  congr 1
  apply Array.ext_getElem?
  intro k
  simp only [Array.getElem?_modify]
  by_cases hk : R = k
  · subst hk
    simp only [if_true, Option.map_map]
    cases w.heap[R]? with
    | none => rfl
    | some o =>
      cases o <;> first | rfl | (simp [Array.setIfInBounds_comm _ _ h])
  · simp [hk]

set_option maxRecDepth 100000 in
set_option maxHeartbeats 2000000 in
theorem rAdd_any (R : Nat) (r : RvN) (i : Int) (s : ByteArray) (w : World) (h : RvAt R r w) (hok : RvOK r) (hu : r.tu ≤ 1152921504606846976) (hs : s.size ≤ 140737488351232) :
    Calls Tryz.prog 69 #[.pointer (some ⟨R, 0, none⟩), .int .i64 i, .string s] w (RPost R w (rAdd r i (lst s)).1 (rAdd r i (lst s)).2) := by
  by_cases hb : i < 0 ∨ 2 ≤ i
  · have e : rAdd r i (lst s) = (13, r) := if_pos hb
    rw [e]
    have HT := hide (rturn_bad R i w hb)
    have HH := hide h
    clear h hb e
    go_enter Tryz.func69, Tryz.ntmps69
    go_wp2_with fail
    refine (unhide HT).mono ?_
    rintro e w' ⟨rfl, hw⟩
    obtain rfl := hw.symm
    go_wp2_with fail
    go_ret
    exact RPost.same HH.out
  obtain ⟨n, rfl, hn⟩ := area_nat hb
  have e0 : rAdd r (n : Int) (lst s) = if r.tu + 1 = r.du then (15, r.tick) else if 1500 < (r.l n).length + (r.t n).length + (lst s).length then (14, r.tick) else (0, { r.tick with t := upd r.t n (r.t n ++ lst s) }) := if_neg hb
  rw [e0]
  clear e0 hb
  by_cases ht : r.tu + 1 = r.du
  · rw [if_pos ht]
    have HT := hide (rturn_fail R r n w h hn hu ht)
    clear h
    go_enter Tryz.func69, Tryz.ntmps69
    go_wp2_with fail
    refine (unhide HT).mono ?_
    rintro e w1 ⟨rfl, hd, hf⟩
    have HD := hide hd; have HF := hide hf
    clear hd hf
    go_wp2_with fail
    go_ret
    exact ⟨rfl, HD.out, HF.out⟩
  · rw [if_neg ht]
    by_cases hl : 1500 < (r.l n).length + (r.t n).length + (lst s).length
    · rw [if_pos hl]
      have HT := hide (rturn_ok R r n w h hn hu ht)
      have hlb := hok n hn
      clear h
      go_enter Tryz.func69, Tryz.ntmps69
      go_wp2_with fail
      refine (unhide HT).mono ?_
      rintro e w1 ⟨rfl, hd, hf⟩
      have HD := hide hd; have HF := hide hf
      have c0 := hd.las n hn
      have c1 := hd.lat n hn
      have f0 := hd.fz n
      have f1 := hd.fz (2 + n)
      have hn0 : ¬ (n : Int) < 0 := by omega
      have hn2 : (n : Int) < 2 := by omega
      have hl' : (1500 : Int) < ((bya (r.l n)).size : Int) + ((bya (r.t n)).size : Int) + (s.size : Int) := by rw [bya_size, bya_size]; have := lst_len s; omega
      have hz1 : (bya (r.l n)).size ≤ 1500 := by rw [bya_size]; omega
      have hz2 : (bya (r.t n)).size ≤ 1500 := by rw [bya_size]; omega
      have c0' : w1.cell? ⟨R, n, none⟩ = some (.string (bya (r.l n))) := c0
      have c1' : w1.cell? ⟨R, 2 + n, none⟩ = some (.string (bya (r.t n))) := c1
      clear hd hf HT hl hlb c0 c1
      generalize bya (r.l n) = X0 at *
      generalize bya (r.t n) = X1 at *
      go_wp2_with fail
      go_quiet (fail)
      go_wp2_with fail
      go_ret
      exact ⟨rfl, HD.out.drew _, HF.out.drew _⟩
    · rw [if_neg hl]
      have HT := hide (rturn_ok R r n w h hn hu ht)
      have hlb := hok n hn
      clear h
      go_enter Tryz.func69, Tryz.ntmps69
      go_wp2_with fail
      refine (unhide HT).mono ?_
      rintro e w1 ⟨rfl, hd, hf⟩
      have HD := hide hd; have HF := hide hf
      have c0 := hd.las n hn
      have c1 := hd.lat n hn
      have f0 := hd.fz n
      have f1 := hd.fz (2 + n)
      have hn0 : ¬ (n : Int) < 0 := by omega
      have hn2 : (n : Int) < 2 := by omega
      have hl' : ¬ (1500 : Int) < ((bya (r.l n)).size : Int) + ((bya (r.t n)).size : Int) + (s.size : Int) := by rw [bya_size, bya_size]; have := lst_len s; omega
      have hz1 : (bya (r.l n)).size ≤ 1500 := by rw [bya_size]; omega
      have hz2 : (bya (r.t n)).size ≤ 1500 := by rw [bya_size]; omega
      have c0' : w1.cell? ⟨R, n, none⟩ = some (.string (bya (r.l n))) := c0
      have c1' : w1.cell? ⟨R, 2 + n, none⟩ = some (.string (bya (r.t n))) := c1
      have ca : ∀ w, (Op.stringOp .add (bya (r.t n)) s).run Tryz.prog w = .ok (.string (bya (r.t n ++ lst s))) w := fun w => by
        have := add_str (r.t n) (lst s) (by rw [lst_len]; omega) w
        rwa [bya_lst] at this
      have HX := hide (fun W (hW : RvAt R r.tick W) => hW.setT hn (r.t n ++ lst s))
      clear hd hf HT hl hlb c0 c1
      generalize bya (r.l n) = X0 at *
      generalize bya (r.t n ++ lst s) = X2 at *
      generalize bya (r.t n) = X1 at *
      go_wp2_with fail
      go_quiet (fail)
      go_upto_region 6 with fail
      refine held_pick2 4 [0, 1, 2, 3, 4, 5, 6, 7, 8, 10, 11] [9, 12, 13] 12 (fun w' => w'.cell? ⟨R, 2 + n, none⟩ = some (.string X1)) (by kernel_rfl) (by kernel_rfl) (fun d _ _ _ _ h => by cases d <;> exact h) c1' ?_
      iterate 11
        refine wpTakeI_step ?_ rfl rfl ?_ ?_
        rotate_left
        · rintro w' d0
          go_simp
          rfl
        go_simp
      refine wpTakeI_nil ?_
      refine wpTailI_step rfl rfl (fun K hK => ?_)
      go_simp
      refine hK _ _ (fun _ => c1') ?_
      clear hK K
      iterate 2
        refine wpTailI_step rfl rfl (fun K hK => ?_)
        go_simp
        refine hK _ _ (fun h => absurd h (by decide)) ?_
        clear hK K
      refine wpTailI_nil ?_
      go_wp2_with fail
      go_ret
      exact ⟨rfl, HX.out _ (HD.out.drew _), (HF.out.drew _).trans (RFr.set R (2 + n) _ _)⟩
set_option maxRecDepth 100000 in
set_option maxHeartbeats 2000000 in
theorem rClear_any (R : Nat) (r : RvN) (i : Int) (w : World) (h : RvAt R r w) (hok : RvOK r) (hu : r.tu ≤ 1152921504606846976) :
    Calls Tryz.prog 70 #[.pointer (some ⟨R, 0, none⟩), .int .i64 i] w (RPost R w (rClear r i).1 (rClear r i).2) := by
  by_cases hb : i < 0 ∨ 2 ≤ i
  · have e : rClear r i = (13, r) := if_pos hb
    rw [e]
    have HT := hide (rturn_bad R i w hb)
    have HH := hide h
    clear h hb e
    go_enter Tryz.func70, Tryz.ntmps70
    go_wp2_with fail
    refine (unhide HT).mono ?_
    rintro e w' ⟨rfl, hw⟩
    obtain rfl := hw.symm
    go_wp2_with fail
    go_ret
    exact RPost.same HH.out
  obtain ⟨n, rfl, hn⟩ := area_nat hb
  have e0 : rClear r (n : Int) = if r.tu + 1 = r.du then (15, r.tick) else (0, { r.tick with l := upd r.l n [], t := upd r.t n [] }) := if_neg hb
  rw [e0]
  clear e0 hb
  by_cases ht : r.tu + 1 = r.du
  · rw [if_pos ht]
    have HT := hide (rturn_fail R r n w h hn hu ht)
    clear h
    go_enter Tryz.func70, Tryz.ntmps70
    go_wp2_with fail
    refine (unhide HT).mono ?_
    rintro e w1 ⟨rfl, hd, hf⟩
    have HD := hide hd; have HF := hide hf
    clear hd hf
    go_wp2_with fail
    go_ret
    exact ⟨rfl, HD.out, HF.out⟩
  · rw [if_neg ht]
    have HT := hide (rturn_ok R r n w h hn hu ht)
    have hlb := hok n hn
    clear h
    go_enter Tryz.func70, Tryz.ntmps70
    go_wp2_with fail
    refine (unhide HT).mono ?_
    rintro e w1 ⟨rfl, hd, hf⟩
    have HD := hide hd; have HF := hide hf
    have c0 := hd.las n hn
    have c1 := hd.lat n hn
    have f0 := hd.fz n
    have f1 := hd.fz (2 + n)
    have hn0 : ¬ (n : Int) < 0 := by omega
    have hn2 : (n : Int) < 2 := by omega
    have HX := hide (hd.setL hn [])
    have HX2 := hide (HX.out.setT hn [])
    have c0' : w1.cell? ⟨R, n, none⟩ = some (.string (bya (r.l n))) := c0
    have c1' : w1.cell? ⟨R, 2 + n, none⟩ = some (.string (bya (r.t n))) := c1
    have hne : ¬ n = 2 + n := by omega
    clear hd hf HT hlb c0 c1
    generalize bya (r.l n) = X0 at *
    generalize bya (r.t n) = X1 at *
    go_wp2_with fail
    go_ret
    exact ⟨rfl, HX2.out, (HF.out.trans (RFr.set R n _ _)).trans (RFr.set R (2 + n) _ _)⟩
set_option maxRecDepth 100000 in
set_option maxHeartbeats 2000000 in
theorem rSync_any (R : Nat) (r : RvN) (i : Int) (w : World) (h : RvAt R r w) (hok : RvOK r) (hu : r.tu ≤ 1152921504606846976) :
    Calls Tryz.prog 71 #[.pointer (some ⟨R, 0, none⟩), .int .i64 i] w (RPost R w (rSync r i).1 (rSync r i).2) := by
  by_cases hb : i < 0 ∨ 2 ≤ i
  · have e : rSync r i = (13, r) := if_pos hb
    rw [e]
    have HT := hide (rturn_bad R i w hb)
    have HH := hide h
    clear h hb e
    go_enter Tryz.func71, Tryz.ntmps71
    go_wp2_with fail
    refine (unhide HT).mono ?_
    rintro e w' ⟨rfl, hw⟩
    obtain rfl := hw.symm
    go_wp2_with fail
    go_ret
    exact RPost.same HH.out
  obtain ⟨n, rfl, hn⟩ := area_nat hb
  have e0 : rSync r (n : Int) = if r.tu + 1 = r.du then (15, r.tick) else (0, { r.tick with l := upd r.l n (r.l n ++ r.t n), t := upd r.t n [] }) := if_neg hb
  rw [e0]
  clear e0 hb
  by_cases ht : r.tu + 1 = r.du
  · rw [if_pos ht]
    have HT := hide (rturn_fail R r n w h hn hu ht)
    clear h
    go_enter Tryz.func71, Tryz.ntmps71
    go_wp2_with fail
    refine (unhide HT).mono ?_
    rintro e w1 ⟨rfl, hd, hf⟩
    have HD := hide hd; have HF := hide hf
    clear hd hf
    go_wp2_with fail
    go_ret
    exact ⟨rfl, HD.out, HF.out⟩
  · rw [if_neg ht]
    have HT := hide (rturn_ok R r n w h hn hu ht)
    have hlb := hok n hn
    clear h
    go_enter Tryz.func71, Tryz.ntmps71
    go_wp2_with fail
    refine (unhide HT).mono ?_
    rintro e w1 ⟨rfl, hd, hf⟩
    have HD := hide hd; have HF := hide hf
    have c0 := hd.las n hn
    have c1 := hd.lat n hn
    have f0 := hd.fz n
    have f1 := hd.fz (2 + n)
    have hn0 : ¬ (n : Int) < 0 := by omega
    have hn2 : (n : Int) < 2 := by omega
    have c0' : w1.cell? ⟨R, n, none⟩ = some (.string (bya (r.l n))) := c0
    have c1' : w1.cell? ⟨R, 2 + n, none⟩ = some (.string (bya (r.t n))) := c1
    have ca := add_str (r.l n) (r.t n) (by omega)
    have hne : ¬ n = 2 + n := by omega
    have HX : Hid (∀ W, RvAt R r.tick W → RvAt R { r.tick with l := upd r.l n (r.l n ++ r.t n), t := upd r.t n [] } ((W.setCell ⟨R, n, none⟩ (.string (bya (r.l n ++ r.t n)))).setCell ⟨R, 2 + n, none⟩ (.string (bya [])))) := fun W hW => by
      have a1 : RvAt R { r.tick with t := upd r.t n [] } (W.setCell ⟨R, 2 + n, none⟩ (.string (bya []))) := hW.setT hn []
      have a2 := a1.setL hn (r.l n ++ r.t n)
      rw [setCell_swap W R n (2 + n) _ _ hne]
      exact a2
    clear hd hf HT hlb c0 c1
    generalize bya (r.l n ++ r.t n) = X2 at *
    generalize bya (r.l n) = X0 at *
    generalize bya (r.t n) = X1 at *
    go_upto_region 3 with fail
    refine held_pick2 4 [0, 1, 2, 3, 4, 5, 6, 7, 8, 9, 10, 11, 12, 13, 15, 16] [14, 17, 18] 17 (fun w' => w'.cell? ⟨R, n, none⟩ = some (.string X0) ∧ w'.cell? ⟨R, 2 + n, none⟩ = some (.string X1)) (by kernel_rfl) (by kernel_rfl) (fun d _ _ _ _ h => by cases d <;> exact h) ⟨c0', c1'⟩ ?_
    iterate 16
      refine wpTakeI_step ?_ rfl rfl ?_ ?_
      rotate_left
      · rintro w' ⟨d0, d1⟩
        go_simp
        rfl
      go_simp
    refine wpTakeI_nil ?_
    refine wpTailI_step rfl rfl (fun K hK => ?_)
    go_simp
    refine hK _ _ (fun _ => ⟨c0', c1'⟩) ?_
    clear hK K
    iterate 2
      refine wpTailI_step rfl rfl (fun K hK => ?_)
      go_simp
      refine hK _ _ (fun h => absurd h (by decide)) ?_
      clear hK K
    refine wpTailI_nil ?_
    go_wp2_with fail
    go_ret
    exact ⟨rfl, HX.out _ (HD.out.drew 1), ((HF.out.drew 1).trans (RFr.set R n _ _)).trans (RFr.set R (2 + n) _ _)⟩
set_option maxRecDepth 100000 in
set_option maxHeartbeats 2000000 in
theorem rRead_any (R : Nat) (r : RvN) (i : Int) (w : World) (h : RvAt R r w) (hok : RvOK r) (hu : r.tu ≤ 1152921504606846976) :
    Calls Tryz.prog 72 #[.pointer (some ⟨R, 0, none⟩), .int .i64 i] w fun e' w' => e' = .returned (.tuple #[.string (bya (rRead r i).1), .int .i64 (rRead r i).2.1]) ∧ RvAt R (rRead r i).2.2 w' ∧ RFr R w w' := by
  by_cases hb : i < 0 ∨ 2 ≤ i
  · have e : rRead r i = ([], 13, r) := if_pos hb
    rw [e]
    have HT := hide (rturn_bad R i w hb)
    have HH := hide h
    clear h hb e
    go_enter Tryz.func72, Tryz.ntmps72
    go_wp2_with fail
    refine (unhide HT).mono ?_
    rintro e w' ⟨rfl, hw⟩
    obtain rfl := hw.symm
    go_wp2_with fail
    go_ret2
    exact ⟨rfl, HH.out, RFr.refl _ _⟩
  obtain ⟨n, rfl, hn⟩ := area_nat hb
  have e0 : rRead r (n : Int) = if r.tu + 1 = r.du then ([], 15, r.tick) else (r.l n ++ r.t n, 0, r.tick) := if_neg hb
  rw [e0]
  clear e0 hb
  by_cases ht : r.tu + 1 = r.du
  · rw [if_pos ht]
    have HT := hide (rturn_fail R r n w h hn hu ht)
    clear h
    go_enter Tryz.func72, Tryz.ntmps72
    go_wp2_with fail
    refine (unhide HT).mono ?_
    rintro e w1 ⟨rfl, hd, hf⟩
    have HD := hide hd; have HF := hide hf
    clear hd hf
    go_wp2_with fail
    go_ret2
    exact ⟨rfl, HD.out, HF.out⟩
  · rw [if_neg ht]
    dsimp only
    have HT := hide (rturn_ok R r n w h hn hu ht)
    have hlb := hok n hn
    clear h
    go_enter Tryz.func72, Tryz.ntmps72
    go_wp2_with fail
    refine (unhide HT).mono ?_
    rintro e w1 ⟨rfl, hd, hf⟩
    have HD := hide hd; have HF := hide hf
    have c0 := hd.las n hn
    have c1 := hd.lat n hn
    have f0 := hd.fz n
    have f1 := hd.fz (2 + n)
    have hn0 : ¬ (n : Int) < 0 := by omega
    have hn2 : (n : Int) < 2 := by omega
    have c0' : w1.cell? ⟨R, n, none⟩ = some (.string (bya (r.l n))) := c0
    have c1' : w1.cell? ⟨R, 2 + n, none⟩ = some (.string (bya (r.t n))) := c1
    have ca := add_str (r.l n) (r.t n) (by omega)
    clear hd hf HT hlb c0 c1
    generalize hX2 : bya (r.l n ++ r.t n) = X2 at *
    have HX2 := hide hX2
    clear hX2
    generalize bya (r.l n) = X0 at *
    generalize bya (r.t n) = X1 at *
    go_wp2_with fail
    go_quiet (fail)
    go_wp2_with fail
    go_ret2
    obtain rfl := HX2.out
    exact ⟨rfl, HD.out.drew _, HF.out.drew _⟩
set_option maxRecDepth 100000 in
set_option maxHeartbeats 2000000 in
theorem rTrouble_any (R : Nat) (r : RvN) (k : Int) (w : World) (h : RvAt R r w) :
    Calls Tryz.prog 74 #[.pointer (some ⟨R, 0, none⟩), .int .i64 k] w (RPost R w (rTrouble r k).1 (rTrouble r k).2) := by
  have c4 := h.tu
  have f4 := h.fz 4
  have c5 := h.du
  have f5 := h.fz 5
  by_cases hb : k < 0
  · have e : rTrouble r k = (1, r) := if_pos hb
    rw [e]
    have HH := hide h
    clear h e
    go_enter Tryz.func74, Tryz.ntmps74
    go_wp2_with fail
    go_ret
    exact RPost.same HH.out
  by_cases h0 : k = 0
  · have e : rTrouble r k = (0, { r with du := 0 }) := by unfold rTrouble; rw [if_neg hb, if_pos h0]
    rw [e]
    subst h0
    have HS := hide (h.setDu 0)
    clear h e hb
    go_enter Tryz.func74, Tryz.ntmps74
    go_wp2_with fail
    go_ret
    exact ⟨rfl, HS.out, RFr.set R 5 _ w⟩
  · have e : rTrouble r k = (0, { r with tu := 0, du := k.toNat }) := by unfold rTrouble; rw [if_neg hb, if_neg h0]
    rw [e]
    have hp : 0 < k := by omega
    have HS := hide (((h.setDu 0).setTu 0).setDu k.toNat)
    rw [Int.toNat_of_nonneg (by omega)] at HS
    clear h e hb h0
    go_enter Tryz.func74, Tryz.ntmps74
    go_wp2_with fail
    go_ret
    exact ⟨rfl, HS.out, ((RFr.set R 5 _ w).trans (RFr.set R 4 _ _)).trans (RFr.set R 5 _ _)⟩
end Go.Proofs.YtmmflekajbeamaaGreatDoor

namespace Go.Proofs.YtmmflekajbeamaaGreatDoor
open Go.RowKit

/-- What lasts behind m bytes of a crash. -/
def rcm (l t : List UInt8) (K : Nat) (j : List UInt8) (m : Nat) : List UInt8 := l ++ t.take (min m K) ++ j.take (m - min m K)
theorem rcm_0 (l t : List UInt8) (K : Nat) (j : List UInt8) : rcm l t K j 0 = l := by simp [rcm]
theorem take_succ_at (t : List UInt8) (m : Nat) (h : m < t.length) : t.take (m + 1) = t.take m ++ [t[m]] := by rw [List.take_add_one, List.getElem?_eq_getElem h]; rfl
theorem rcm_keep (l t : List UInt8) (K : Nat) (j : List UInt8) (m : Nat) (h : m < K) (hm : m < t.length) : rcm l t K j (m + 1) = rcm l t K j m ++ [t[m]] := by
  unfold rcm
  rw [Nat.min_eq_left (by omega), Nat.min_eq_left (by omega), Nat.sub_self, Nat.sub_self, take_succ_at t m hm]
  simp
theorem rcm_junk (l t : List UInt8) (K : Nat) (j : List UInt8) (m : Nat) (h : K ≤ m) (hj : m - K < j.length) : rcm l t K j (m + 1) = rcm l t K j m ++ [j[m - K]] := by
  unfold rcm
  rw [Nat.min_eq_right (by omega), Nat.min_eq_right h, show m + 1 - K = m - K + 1 by omega, take_succ_at j (m - K) hj]
  simp
theorem rcm_none (l t : List UInt8) (K : Nat) (j : List UInt8) (m : Nat) (h : K ≤ m) (hj : j.length ≤ m - K) : rcm l t K j (m + 1) = rcm l t K j m := by
  unfold rcm
  rw [Nat.min_eq_right (by omega), Nat.min_eq_right h, List.take_of_length_le (l := j) (i := m - K) hj, List.take_of_length_le (l := j) (i := m + 1 - K) (by omega)]
def jm (K J m : Nat) : Nat := min (m - min m K) J
theorem jm_keep {K J m : Nat} (h : m < K) : jm K J (m + 1) = 0 ∧ jm K J m = 0 := by unfold jm; omega
theorem jm_junk {K J m : Nat} (h : K ≤ m) (hj : m - K < J) : jm K J m = m - K ∧ jm K J (m + 1) = m - K + 1 := by unfold jm; omega
theorem jm_none {K J m : Nat} (h : K ≤ m) (hj : J ≤ m - K) : jm K J m = J ∧ jm K J (m + 1) = J := by unfold jm; omega
theorem rcm_len (l t : List UInt8) (K : Nat) (j : List UInt8) (m : Nat) (hm : m ≤ t.length) : (rcm l t K j m).length ≤ l.length + m := by
  unfold rcm
  rw [List.length_append, List.length_append, List.length_take, List.length_take]
  omega
/-- Behind k areas. -/
def rcN (r : RvN) (keep : Int) (j : List UInt8) : Nat → RvN
  | 0 => r
  | k + 1 => { rcN r keep j k with l := upd (rcN r keep j k).l k (rcm ((rcN r keep j k).l k) ((rcN r keep j k).t k) keep.toNat j ((rcN r keep j k).t k).length), t := upd (rcN r keep j k).t k [] }
theorem rcN_at (r : RvN) (keep : Int) (j : List UInt8) : ∀ k i, k ≤ i → (rcN r keep j k).l i = r.l i ∧ (rcN r keep j k).t i = r.t i
  | 0, _, _ => ⟨rfl, rfl⟩
  | k + 1, i, h => by
    have q := rcN_at r keep j k i (by omega)
    unfold rcN
    exact ⟨(upd_ne _ _ _ _ (by omega)).trans q.1, (upd_ne _ _ _ _ (by omega)).trans q.2⟩
def rCrash (r : RvN) (keep : Int) (j : List UInt8) : RvN := { rcN r keep j 2 with du := 0, us := 0 }
theorem bya_xt (l : List UInt8) (a b : Nat) : (bya l).extract a b = bya ((l.drop a).take (b - a)) := by
  rw [← bya_lst ((bya l).extract a b), lst_ext, lst_bya]
theorem drop_one (l : List UInt8) (m : Nat) (h : m < l.length) : (l.drop m).take (m + 1 - m) = [l[m]] := by
  rw [show m + 1 - m = 1 by omega, List.drop_eq_getElem_cons h]
  rfl
theorem upd_upd {α : Type} (f : Nat → α) (i : Nat) (x y : α) : upd (upd f i x) i y = upd f i y := by
  funext j
  by_cases h : j = i
  · subst h; rw [upd_at, upd_at]
  · rw [upd_ne _ _ _ _ h, upd_ne _ _ _ _ h, upd_ne _ _ _ _ h]
theorem upd_self {α : Type} (f : Nat → α) (i : Nat) : upd f i (f i) = f := by
  funext j
  by_cases h : j = i
  · subst h; rw [upd_at]
  · rw [upd_ne _ _ _ _ h]
theorem wrapI {m : Nat} (h : m ≤ 140737488351232) : IntKind.i64.wrap ((m : Int) + 1) = ((m + 1 : Nat) : Int) := by
  simp only [IntKind.wrap, IntKind.signed, IntKind.bits]
  simp
  omega
theorem wrapJ {m : Nat} (h : m ≤ 140737488351232) : wrap64 ((m : Int) + 1) = ((m + 1 : Nat) : Int) := by unfold wrap64; omega
theorem measM {k m : Nat} {x : Int} (hx : x = ((m + 1 : Nat) : Int)) (h : m < k) : k - (intOf (.int .i64 x)).toNat < k - (intOf (.int .i64 (m : Int))).toNat := by
  subst hx
  simp only [intOf]
  omega
theorem le_ten {m : Nat} (h : m ≤ 1500) : m ≤ 140737488351232 := by omega
theorem le_of_add {a b : Nat} (h : a + b ≤ 1500) : b ≤ 1500 := by omega
theorem len_ten {a l m t : Nat} (h : a ≤ l + m) (hm : m ≤ t) (hl : l + t ≤ 1500) : a ≤ 140737488351232 := by omega
theorem lt_toNat {m : Nat} {k : Int} (h : (m : Int) < k) : m < k.toNat := by omega
theorem ge_toNat {m : Nat} {k : Int} (h : ¬ (m : Int) < k) : k.toNat ≤ m := by omega
/-- One more byte. -/
theorem step_str (L : List UInt8) (t : List UInt8) (m : Nat) (h : m < t.length) (hl : L.length ≤ 140737488351232) (w : World) : (Op.stringOp .add (bya L) ((bya t).extract m (m + 1))).run Tryz.prog w = .ok (.string (bya (L ++ [t[m]]))) w := by
  rw [bya_xt, drop_one t m h]
  exact add_str L [t[m]] (by simp; omega) w
/-- The area's row behind one more byte of the crash. -/
theorem RvAt.more {R : Nat} {r : RvN} {w : World} {i : Nat} {x y : List UInt8} (h : RvAt R { r with l := upd r.l i x } w) (hi : i < 2) : RvAt R { r with l := upd r.l i y } (w.setCell ⟨R, i, none⟩ (.string (bya y))) := by
  have := h.setL hi y
  rw [upd_upd] at this
  exact this

set_option maxRecDepth 100000 in
set_option maxHeartbeats 8000000 in
theorem rCrash_any (R : Nat) (r : RvN) (keep : Int) (junk : ByteArray) (w : World) (h : RvAt R r w) (hok : RvOK r) (hj : junk.size ≤ 140737488351232) :
    Calls Tryz.prog 75 #[.pointer (some ⟨R, 0, none⟩), .int .i64 keep, .string junk] w fun e' w' => e' = .returned (.tuple #[]) ∧ RvAt R (rCrash r keep (lst junk)) w' ∧ RFr R w w' := by
  have HH := hide h; have HOk := hide hok; have HJ := hide hj
  clear h hok hj
  go_enter Tryz.func75, Tryz.ntmps75
  go_wp2_with fail
  go_loopw [6] (fun i wr => ∃ k : Nat, k ≤ 2 ∧ i = .int .i64 k ∧ Hid (RvAt R (rcN r keep (lst junk) k) wr ∧ RFr R w wr)) (fun i _ => 2 - (intOf i).toNat)
  case atStart => exact ⟨0, Nat.zero_le _, rfl, ⟨HH.out, RFr.refl _ _⟩⟩
  case round =>
    obtain ⟨k, hk, rfl, HI⟩ := hrel
    by_cases hlt : k < 2
    · have hlt' : (k : Int) < 2 := by omega
      have hk0 : ¬ (k : Int) < 0 := by omega
      obtain ⟨rk, hrk⟩ : ∃ rk, rk = rcN r keep (lst junk) k := ⟨_, rfl⟩
      have hq := rcN_at r keep (lst junk) k k (Nat.le_refl _)
      have hlen : (rk.l k).length + (rk.t k).length ≤ 1500 := by rw [hrk, hq.1, hq.2]; exact HOk.out k hlt
      have HN : Hid (rcN r keep (lst junk) (k + 1) = { rk with l := upd rk.l k (rcm (rk.l k) (rk.t k) keep.toNat (lst junk) (rk.t k).length), t := upd rk.t k [] }) := by unfold Hid; rw [hrk]; rfl
      rw [← hrk] at HI
      clear hrk hq
      obtain ⟨l, hl⟩ : ∃ l, l = rk.l k := ⟨_, rfl⟩
      obtain ⟨t, ht⟩ : ∃ t, t = rk.t k := ⟨_, rfl⟩
      have HI0 : Hid (RvAt R { rk with l := upd rk.l k (rcm l t keep.toNat (lst junk) 0) } wr ∧ RFr R w wr) := by
        unfold Hid
        rw [rcm_0, hl, upd_self]
        exact HI.out
      rw [← hl, ← ht] at HN hlen
      have HTt := hide ht
      clear hl ht HI
      go_wp2_with fail
      go_loopw [7, 8] (fun j n wq => ∃ m : Nat, m ≤ t.length ∧ n = .int .i64 m ∧ j = .int .i64 (jm keep.toNat junk.size m : Nat) ∧ Hid (RvAt R { rk with l := upd rk.l k (rcm l t keep.toNat (lst junk) m) } wq ∧ RFr R w wq)) (fun _ n _ => t.length - (intOf n).toNat)
      case atStart => exact ⟨0, Nat.zero_le _, rfl, by simp [jm], HI0⟩
      case round =>
        obtain ⟨m, hm, rfl, rfl, HM⟩ := hrel
        have c0 : wr.cell? ⟨R, k, none⟩ = some (.string (bya (rcm l t keep.toNat (lst junk) m))) := (HM.out.1.las k hlt).trans (by show some (Value.string (bya (upd _ _ _ k))) = _; rw [upd_at])
        have c1 : wr.cell? ⟨R, 2 + k, none⟩ = some (.string (bya t)) := by rw [HTt.out]; exact HM.out.1.lat k hlt
        have f0 := HM.out.1.fz k
        have f1 := HM.out.1.fz (2 + k)
        have HTs : Hid ((bya t).size = t.length) := bya_size t
        by_cases hml : m < t.length
        · have hml' : (m : Int) < ((bya t).size : Int) := by rw [HTs.out]; exact Int.ofNat_lt.2 hml
          have hm1 : ((m : Int) + 1) ≤ ((bya t).size : Int) := by rw [HTs.out]; exact Int.ofNat_le.2 hml
          have hm0 : (0 : Int) ≤ (m : Int) + 1 := Int.natCast_nonneg (m + 1)
          have hm2 : (m : Int) ≤ (m : Int) + 1 := Int.le_add_one (Int.le_refl _)
          have hlm := rcm_len l t keep.toNat (lst junk) m hm
          have hwI := wrapI (m := m) (le_ten (Nat.le_trans hm (le_of_add hlen)))
          have hwJ := wrapJ (m := m) (le_ten (Nat.le_trans hm (le_of_add hlen)))
          have hLb : (rcm l t keep.toNat (lst junk) m).length ≤ 140737488351232 := len_ten hlm hm hlen
          by_cases hmk : (m : Int) < keep
          · have hK : m < keep.toNat := lt_toNat hmk
            have HR := hide (rcm_keep l t keep.toNat (lst junk) m hK hml)
            have HJm := hide (jm_keep (J := junk.size) hK)
            have ca := step_str (rcm l t keep.toNat (lst junk) m) t m hml hLb
            rw [← HR.out] at ca
            have HX : Hid (∀ W, W = (wr.setCell ⟨R, k, none⟩ (.string (bya (rcm l t keep.toNat (lst junk) (m + 1))))).drew → RvAt R { rk with l := upd rk.l k (rcm l t keep.toNat (lst junk) (m + 1)) } W ∧ RFr R w W) := fun W e => by
              rw [e]
              exact ⟨(HM.out.1.more hlt).drew 1, (HM.out.2.trans (RFr.set R k _ _)).drew 1⟩
            have HEn : Hid (jm keep.toNat junk.size m = jm keep.toNat junk.size (m + 1)) := by unfold Hid; rw [HJm.out.1, HJm.out.2]
            clear HM hlm hLb
            generalize hA0 : bya (rcm l t keep.toNat (lst junk) m) = A0 at *
            generalize hA1 : bya (rcm l t keep.toNat (lst junk) (m + 1)) = A1 at *
            generalize hTT : bya t = TT at *
            clear hA0 hA1 hTT
            go_wp2_with fail
            go_upto_region 8 with fail
            refine held_pick2 4 [0, 1, 2, 3, 4, 5, 6, 7, 8, 9, 10, 11, 12, 13, 14, 15, 16, 17, 19, 20] [18, 21, 22] 21 (fun w' => w'.cell? ⟨R, k, none⟩ = some (.string A0) ∧ w'.cell? ⟨R, 2 + k, none⟩ = some (.string TT)) (by kernel_rfl) (by kernel_rfl) (fun d _ _ _ _ h => by cases d <;> exact h) ⟨c0, c1⟩ ?_
            iterate 20
              refine wpTakeI_step ?_ rfl rfl ?_ ?_
              rotate_left
              · rintro w' ⟨d0, d1⟩
                go_simp
                rfl
              go_simp
            refine wpTakeI_nil ?_
            refine wpTailI_step rfl rfl (fun K hK => ?_)
            go_simp
            refine hK _ _ (fun _ => ⟨c0, c1⟩) ?_
            clear hK K
            iterate 2
              refine wpTailI_step rfl rfl (fun K hK => ?_)
              go_simp
              refine hK _ _ (fun h => absurd h (by decide)) ?_
              clear hK K
            refine wpTailI_nil ?_
            go_wp2_with fail
            exact ⟨⟨m + 1, hml, rfl, by rw [HEn.out], HX.out _ rfl⟩, measM rfl hml⟩
          · have hK : keep.toNat ≤ m := ge_toNat hmk
            by_cases hjl : m - keep.toNat < junk.size
            · have hjl2 : m - keep.toNat < (lst junk).length := by rw [lst_len]; exact hjl
              have HR := hide (rcm_junk l t keep.toNat (lst junk) m hK hjl2)
              have HJm := hide (jm_junk (J := junk.size) hK hjl)
              have ca := step_str (rcm l t keep.toNat (lst junk) m) (lst junk) (m - keep.toNat) hjl2 hLb
              rw [← HR.out, bya_lst] at ca
              have HX : Hid (∀ W, W = (wr.setCell ⟨R, k, none⟩ (.string (bya (rcm l t keep.toNat (lst junk) (m + 1))))).drew → RvAt R { rk with l := upd rk.l k (rcm l t keep.toNat (lst junk) (m + 1)) } W ∧ RFr R w W) := fun W e => by
                rw [e]
                exact ⟨(HM.out.1.more hlt).drew 1, (HM.out.2.trans (RFr.set R k _ _)).drew 1⟩
              rw [HJm.out.1]
              have HJ2 := hide HJm.out.2
              have hp1 := Int.ofNat_lt.2 hjl
              have hp2 : ((m - keep.toNat : Nat) : Int) + 1 ≤ (junk.size : Int) := Int.ofNat_le.2 hjl
              have hwP := wrapI (m := m - keep.toNat) (Nat.le_trans (Nat.sub_le _ _) (le_ten (Nat.le_trans hm (le_of_add hlen))))
              have hwQ := wrapJ (m := m - keep.toNat) (Nat.le_trans (Nat.sub_le _ _) (le_ten (Nat.le_trans hm (le_of_add hlen))))
              clear HM hlm hLb HJm hjl hjl2 HR
              generalize m - keep.toNat = p at *
              have hp0 : (0 : Int) ≤ (p : Int) + 1 := Int.natCast_nonneg (p + 1)
              have hp3 : (p : Int) ≤ (p : Int) + 1 := Int.le_add_one (Int.le_refl _)
              generalize hA0 : bya (rcm l t keep.toNat (lst junk) m) = A0 at *
              generalize hA1 : bya (rcm l t keep.toNat (lst junk) (m + 1)) = A1 at *
              generalize hTT : bya t = TT at *
              clear hA0 hA1 hTT
              go_wp2_with fail
              go_upto_region 10 with fail
              refine held_pick2 4 [0, 1, 2, 3, 4, 5, 6, 7, 8, 9, 10, 11, 12, 14, 15] [13, 16, 17] 16 (fun w' => w'.cell? ⟨R, k, none⟩ = some (.string A0)) (by kernel_rfl) (by kernel_rfl) (fun d _ _ _ _ h => by cases d <;> exact h) c0 ?_
              iterate 15
                refine wpTakeI_step ?_ rfl rfl ?_ ?_
                rotate_left
                · rintro w' d0
                  go_simp
                  rfl
                go_simp
              refine wpTakeI_nil ?_
              refine wpTailI_step rfl rfl (fun K hK => ?_)
              go_simp
              refine hK _ _ (fun _ => c0) ?_
              clear hK K
              iterate 2
                refine wpTailI_step rfl rfl (fun K hK => ?_)
                go_simp
                refine hK _ _ (fun h => absurd h (by decide)) ?_
                clear hK K
              refine wpTailI_nil ?_
              go_wp2_with fail
              exact ⟨⟨m + 1, hml, rfl, by rw [HJ2.out]; rfl, HX.out _ rfl⟩, measM rfl hml⟩
            · have hjl2 : (lst junk).length ≤ m - keep.toNat := by rw [lst_len]; exact Nat.le_of_not_lt hjl
              have HR := hide (rcm_none l t keep.toNat (lst junk) m hK hjl2)
              have HJm := hide (jm_none (J := junk.size) hK (Nat.le_of_not_lt hjl))
              rw [HJm.out.1]
              have HX : Hid (RvAt R { rk with l := upd rk.l k (rcm l t keep.toNat (lst junk) (m + 1)) } wr ∧ RFr R w wr) := by unfold Hid; rw [HR.out]; exact HM.out
              have HJ2 := hide HJm.out.2
              clear HM hlm hLb HJm hjl hjl2 HR
              generalize hA0 : bya (rcm l t keep.toNat (lst junk) m) = A0 at *
              generalize hTT : bya t = TT at *
              clear hA0 hTT
              go_wp2_with fail
              exact ⟨⟨m + 1, hml, rfl, by rw [HJ2.out], HX⟩, measM rfl hml⟩
        · have hml' : ¬ (m : Int) < ((bya t).size : Int) := by rw [HTs.out]; exact fun h => hml (Int.ofNat_lt.1 h)
          obtain rfl : m = t.length := Nat.le_antisymm hm (Nat.le_of_not_lt hml)
          have HX : Hid (RvAt R (rcN r keep (lst junk) (k + 1)) (wr.setCell ⟨R, 2 + k, none⟩ (.string (bya []))) ∧ RFr R w (wr.setCell ⟨R, 2 + k, none⟩ (.string (bya [])))) := by
            unfold Hid
            rw [HN.out]
            exact ⟨HM.out.1.setT hlt [], HM.out.2.trans (RFr.set R (2 + k) _ _)⟩
          clear HM
          generalize hA0 : bya (rcm l t keep.toNat (lst junk) t.length) = A0 at *
          generalize hTT : bya t = TT at *
          clear hA0 hTT
          go_wp2_with fail
          exact ⟨⟨k + 1, hlt, rfl, HX⟩, measM rfl hlt⟩
    · have hlt' : ¬ (k : Int) < 2 := by omega
      obtain rfl : k = 2 := by omega
      have c5 := HI.out.1.du
      have c7 := HI.out.1.us
      have f5 := HI.out.1.fz 5
      have f7 := HI.out.1.fz 7
      have HS := hide ((HI.out.1.setDu 0).setUs 0)
      have HF := hide HI.out.2
      clear HI
      go_wp2_with fail
      go_end0
      exact ⟨rfl, HS.out, (HF.out.trans (RFr.set R 5 _ _)).trans (RFr.set R 7 _ _)⟩
end Go.Proofs.YtmmflekajbeamaaGreatDoor
